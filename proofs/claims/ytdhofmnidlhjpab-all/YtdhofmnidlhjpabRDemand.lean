import Derived.Test.YtdhofmnidlhjpabRCheck
namespace Go.Proofs.Ytdhofmnidlhjpab
open Go.RowKit

/-- Demand's two answers. -/
def demandOf (l : List UInt8) (t : Int) : Int × Int :=
  if (checkOf l).1 ≠ 0 then (0, (checkOf l).1) else
  if t < 0 ∨ 10000 < t then (0, 4) else ((wanted (tasksOf l) t.toNat : Nat), 0)

theorem set_facts (l : List UInt8) (h : (checkOf l).1 = 0) : formed l ∧ (tasksOf l).length ≤ 8 ∧ 1 ≤ (tasksOf l).length ∧ l.length ≤ 31 ∧ (∀ x ∈ tasksOf l, fine x ∧ x.c ≤ x.d ∧ x.d ≤ x.t) := by
  obtain ⟨h1, h2, h3, h4⟩ := checkOf_zero l h
  have := h2.2
  refine ⟨h2, by rw [tasksOf_length]; omega, by rw [tasksOf_length]; omega, h1, fun x hx => ⟨tasksOf_fine l h2 x hx, badTask_none _ _ h3 x hx⟩⟩

theorem ret_pair {p : Int × Int} {a b : Int} (h : p = (a, b)) : Ending.returned (.tuple #[.int .i64 a, .int .i64 b]) = .returned (.tuple #[.int .i64 p.1, .int .i64 p.2]) := by rw [h]

set_option maxRecDepth 100000 in
set_option maxHeartbeats 1600000 in
theorem ref_demand (s : ByteArray) (t : Int) (w : World) (hs : s.size ≤ maxLen) (ht0 : -9223372036854775808 ≤ t) (ht1 : t ≤ 9223372036854775807) :
    Calls Try.prog 46 #[.string s, .int .i64 t] w fun e w' => e = .returned (.tuple #[.int .i64 (demandOf s.data.toList t).1, .int .i64 (demandOf s.data.toList t).2]) ∧ Below w.heap.size w w' := by
  have hck := checkOf_bound s.data.toList
  have HC : Hid (∀ w : World, Calls Try.prog 15 #[.string s] w fun e w' => e = .returned (.tuple #[.int .i64 (checkOf s.data.toList).1, .int .i64 (checkOf s.data.toList).2]) ∧ Below w.heap.size w w') := fun w => ref_check s w hs
  by_cases h1 : (checkOf s.data.toList).1 = 0
  · obtain ⟨hf, hn8, hn1, hl, hfi⟩ := set_facts _ h1
    have hz := checkOf_zero _ h1
    rw [hz.2.2.2] at HC
    by_cases h2 : t < 0 ∨ 10000 < t
    · have HD : Hid (demandOf s.data.toList t = (0, 4)) := by unfold Hid demandOf; rw [if_neg (by simp [h1]), if_pos h2]
      clear hz h1
      rcases h2 with h2 | h2
      · go_enter Try.func46, Try.ntmps46
        go_wp2_with (go_at_call 15; refine (HC.out _).mono ?_; rintro e w1 ⟨rfl, hb1⟩)
        go_ret2
        exact ⟨ret_pair HD.out, hb1⟩
      · have h0 : ¬ t < 0 := by omega
        go_enter Try.func46, Try.ntmps46
        go_wp2_with (go_at_call 15; refine (HC.out _).mono ?_; rintro e w1 ⟨rfl, hb1⟩)
        go_ret2
        exact ⟨ret_pair HD.out, hb1⟩
    · obtain ⟨m, rfl⟩ := Int.eq_ofNat_of_zero_le (show 0 ≤ t by omega)
      have hm : m ≤ 10000 := by omega
      have HD : Hid (demandOf s.data.toList (m : Int) = (((wanted (tasksOf s.data.toList) m : Nat) : Int), 0)) := by unfold Hid demandOf; rw [if_neg (by simp [h1]), if_neg h2]; rfl
      clear hz h1 h2 hck
      have HK : Hid (∀ w : World, Calls Try.prog 16 #[.string s] w fun e w' => ∃ v, e = .returned v ∧ w'.ownsRow w.heap.size 68 3 v (tasksOf s.data.toList).length (rowOf (tasksOf s.data.toList)) ∧ Below w.heap.size w w') := fun w => ref_tasks s w (by simpa using hl) hf
      generalize tasksOf s.data.toList = L at *
      go_enter Try.func46, Try.ntmps46
      go_wp2_with fail
      refine (HC.out _).mono ?_
      rintro e w1 ⟨rfl, hb1⟩
      go_wp2_with fail
      refine (HK.out _).mono ?_
      rintro e w2 ⟨v, rfl, hown, hb2⟩
      obtain ⟨ao, cap, rfl, hH⟩ := holds_of_owns hown
      obtain ⟨n, hn⟩ : ∃ n, n = L.length := ⟨_, rfl⟩
      rw [← hn]
      have HN : Hid (n = L.length) := hn
      clear hown hn
      go_wp2_with fail
      refine (ref_wanted ao n cap L m _ HN.out hn8 (fun x hx => by have := hfi x hx; simp only [fine] at this; omega) hm hH).mono ?_
      rintro e w3 ⟨rfl, q, rfl⟩
      go_wp2_with fail
      go_ret2
      exact ⟨ret_pair HD.out, belN (hb1.trans (hb2.mono hb1.size)) _⟩
  · have HD : Hid (demandOf s.data.toList t = (0, (checkOf s.data.toList).1)) := by unfold Hid demandOf; rw [if_pos h1]
    generalize (checkOf s.data.toList).2 = c2 at *
    generalize (checkOf s.data.toList).1 = c1 at *
    have hne : (c1 != 0) = true := by simpa using h1
    go_enter Try.func46, Try.ntmps46
    go_wp2_with (go_at_call 15; refine (HC.out _).mono ?_; rintro e w1 ⟨rfl, hb1⟩)
    go_ret2
    exact ⟨ret_pair HD.out, hb1⟩
end Go.Proofs.Ytdhofmnidlhjpab
