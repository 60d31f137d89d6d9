import Derived.Test.YtdllphinimagfaaLUpTo
import Derived.Test.YtdllphinimagfaaCCalls
namespace Go.Proofs.Ytdllphinimagfaa
open Go.RowKit

set_option maxRecDepth 100000 in
set_option maxHeartbeats 1600000 in
theorem num_any (a : Int) (w : World) (_h1 : i64ok a) :
    Calls Try.prog 9 #[.int .i64 a] w fun e w' => e = .returned (.int .i64 a) ∧ w' = w := by
  go_enter Try.func9, Try.ntmps9
  go_wp2
  go_ret
  exact ⟨rfl, rfl⟩

set_option maxRecDepth 100000 in
set_option maxHeartbeats 1600000 in
theorem plays_check : Plays 1 1 := by
  intro kd N M S E w hlo hhi hN hM hS hE
  obtain rfl : kd = 1 := by omega
  unfold opV
  have hk := checkOf_bound S.data.toList
  have HA := fun w => code_check S w hS
  have HB := fun w => ref_check S w hS
  have HN : Hid (∀ w, Calls Try.prog 9 #[.int .i64 (checkOf S.data.toList).1] w fun e w' => e = .returned (.int .i64 (checkOf S.data.toList).1) ∧ w' = w) := fun w => num_any _ w (by unfold i64ok; omega)
  generalize (checkOf S.data.toList).1 = c1 at *
  generalize (checkOf S.data.toList).2 = c2 at *
  go_enter Try.func6, Try.ntmps6
  go_wp2_with fail
  refine (HA _).mono ?_
  rintro e w1 ⟨rfl, hb1⟩
  obtain ⟨hc1, hf1⟩ := bcell hb1
  have hz1 := hb1.size
  simp only [World.size_alloc] at hz1
  go_wp2_with fail
  refine (HB _).mono ?_
  rintro e w2 ⟨rfl, hb2⟩
  go_wp2_with (go_at_call 9; refine (HN.out _).mono ?_; rintro e w3 ⟨rfl, rfl⟩)
  go_ret
  exact ⟨rfl, ((Below.refl _ _).alloc (Nat.le_refl _) _).trans ((hb1.trans (hb2.mono hb1.size)).mono (by simp))⟩

theorem demandOf_bound (l : List UInt8) (t : Int) : i64ok (demandOf l t).1 ∧ i64ok (demandOf l t).2 := by
  have hk := checkOf_bound l
  unfold demandOf i64ok
  by_cases h1 : (checkOf l).1 = 0
  · rw [if_neg (by simp [h1])]
    by_cases h2 : t < 0 ∨ 10000 < t
    · rw [if_pos h2]; simp
    · rw [if_neg h2]
      obtain ⟨hf, hn8, hn1, hl, hfi⟩ := set_facts _ h1
      have hw := wanted_le (tasksOf l) t.toNat (fun x hx => by have := hfi x hx; simp only [fine] at this; omega)
      have hb3 : (tasksOf l).length * (9 * (t.toNat + 1)) ≤ 8 * (9 * 10001) := Nat.mul_le_mul hn8 (by omega)
      simp only
      omega
  · rw [if_pos h1]; simp only; omega

set_option maxRecDepth 100000 in
set_option maxHeartbeats 1600000 in
theorem plays_demand : Plays 2 2 := by
  intro kd N M S E w hlo hhi hN hM hS hE
  obtain rfl : kd = 2 := by omega
  unfold opV
  have hk := demandOf_bound S.data.toList N
  have HA := fun w => code_demand S N w hS hN.1 hN.2
  have HB := fun w => ref_demand S N w hS hN.1 hN.2
  have HN : Hid (∀ w, Calls Try.prog 9 #[.int .i64 (demandOf S.data.toList N).2] w fun e w' => e = .returned (.int .i64 (demandOf S.data.toList N).2) ∧ w' = w) := fun w => num_any _ w hk.2
  generalize (demandOf S.data.toList N).1 = c1 at *
  generalize (demandOf S.data.toList N).2 = c2 at *
  go_enter Try.func6, Try.ntmps6
  go_wp2_with fail
  refine (HA _).mono ?_
  rintro e w1 ⟨rfl, hb1⟩
  obtain ⟨hc1, hf1⟩ := bcell hb1
  have hz1 := hb1.size
  simp only [World.size_alloc] at hz1
  go_wp2_with fail
  refine (HB _).mono ?_
  rintro e w2 ⟨rfl, hb2⟩
  go_wp2_with (go_at_call 9; refine (HN.out _).mono ?_; rintro e w3 ⟨rfl, rfl⟩)
  go_ret
  exact ⟨rfl, ((Below.refl _ _).alloc (Nat.le_refl _) _).trans ((hb1.trans (hb2.mono hb1.size)).mono (by simp))⟩

set_option maxRecDepth 100000 in
set_option maxHeartbeats 400000 in
theorem law_checks (ao : Option Addr) (n cap : Nat) (w : World) (hn : n ≤ 1000000000000000) (hH : HoldsO w ao n) :
    Calls Try.prog 3 #[.slice ao n cap] w fun e w' => e = .returned (.bool true) ∧ Below w.heap.size w w' := by
  have HU := fun w (h : HoldsO w ao n) => upto_true 1 1 plays_check ao n cap w hn h
  clear hn
  go_enter Try.func3, Try.ntmps3
  go_wp2_with fail
  refine (HU _ hH).mono ?_
  rintro e w1 ⟨rfl, hb1⟩
  go_wp2
  go_ret
  exact ⟨rfl, hb1⟩

set_option maxRecDepth 100000 in
set_option maxHeartbeats 400000 in
theorem law_demands (ao : Option Addr) (n cap : Nat) (w : World) (hn : n ≤ 1000000000000000) (hH : HoldsO w ao n) :
    Calls Try.prog 4 #[.slice ao n cap] w fun e w' => e = .returned (.bool true) ∧ Below w.heap.size w w' := by
  have HU := fun w (h : HoldsO w ao n) => upto_true 2 2 plays_demand ao n cap w hn h
  clear hn
  go_enter Try.func4, Try.ntmps4
  go_wp2_with fail
  refine (HU _ hH).mono ?_
  rintro e w1 ⟨rfl, hb1⟩
  go_wp2
  go_ret
  exact ⟨rfl, hb1⟩
end Go.Proofs.Ytdllphinimagfaa
