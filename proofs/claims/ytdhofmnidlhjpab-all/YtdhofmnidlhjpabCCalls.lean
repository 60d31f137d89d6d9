import Derived.Test.YtdhofmnidlhjpabCRead
import Derived.Test.YtdhofmnidlhjpabRDemand
namespace Go.Proofs.Ytdhofmnidlhjpab
open Go.RowKit

/-- The program's reading, wherever Check's error is not 0. -/
theorem read_no (s : ByteArray) (w : World) (hs : s.size ≤ maxLen) (h : ¬ (checkOf s.data.toList).1 = 0) : readNo s w := by
  by_cases h1 : 31 < s.size
  · exact read_long s w hs h1
  · by_cases h2 : 0 ≤ placeOf s.data.toList
    · exact read_place s w h1 h2
    · cases h3 : badTask (tasksOf s.data.toList) 0 with
      | some i => exact read_task s w h1 h2 i h3
      | none => exact absurd (by rw [checkOf_ok _ (by simpa using h1) h2 h3]) h

set_option maxRecDepth 100000 in
set_option maxHeartbeats 1600000 in
theorem check_calls (s : ByteArray) (w : World) (hs : s.size ≤ maxLen) :
    Calls Try.prog 20 #[.string s] w fun e w' => e = .returned (.tuple #[.int .i64 (checkOf s.data.toList).1, .int .i64 (checkOf s.data.toList).2]) ∧ Below w.heap.size w w' := by
  have hall : ∀ w, Calls Try.prog 12 #[.string s] w fun e w' => ∃ ao n cap, e = .returned (.agg #[.slice ao n cap, .int .i64 (checkOf s.data.toList).1, .int .i64 (checkOf s.data.toList).2]) ∧ Below w.heap.size w w' := by
    intro w
    by_cases h : (checkOf s.data.toList).1 = 0
    · refine (read_ok s w h).mono ?_
      rintro e w' ⟨ao, cap, rfl, _, hb⟩
      exact ⟨ao, _, cap, by rw [(checkOf_zero _ h).2.2.2], hb⟩
    · refine (read_no s w hs h).mono ?_
      rintro e w' ⟨rfl, hb⟩
      exact ⟨_, _, _, rfl, hb⟩
  have HA := hall
  have hck := checkOf_bound s.data.toList
  clear hall
  generalize (checkOf s.data.toList).1 = c1 at *
  generalize (checkOf s.data.toList).2 = c2 at *
  go_enter Try.func20, Try.ntmps20
  go_wp2_with fail
  refine (HA _).mono ?_
  rintro e w1 ⟨ao, n, cap, rfl, hb1⟩
  go_wp2
  go_quiet (fail)
  go_wp2
  go_ret2
  exact ⟨rfl, belN (hb1.alloc hb1.size _) _⟩

set_option maxRecDepth 100000 in
set_option maxHeartbeats 1600000 in
theorem demand_calls (s : ByteArray) (t : Int) (w : World) (hs : s.size ≤ maxLen) (ht0 : -9223372036854775808 ≤ t) (ht1 : t ≤ 9223372036854775807) :
    Calls Try.prog 21 #[.string s, .int .i64 t] w fun e w' => e = .returned (.tuple #[.int .i64 (demandOf s.data.toList t).1, .int .i64 (demandOf s.data.toList t).2]) ∧ Below w.heap.size w w' := by
  by_cases h1 : (checkOf s.data.toList).1 = 0
  · obtain ⟨hf, hn8, hn1, hl, hfi⟩ := set_facts _ h1
    have HR := fun w => read_ok s w h1
    by_cases h2 : t < 0 ∨ 10000 < t
    · have HD : Hid (demandOf s.data.toList t = (0, 4)) := by unfold Hid demandOf; rw [if_neg (by simp [h1]), if_pos h2]
      clear h1
      rcases h2 with h2 | h2
      · go_enter Try.func21, Try.ntmps21
        go_wp2_with fail
        refine (HR _).mono ?_
        rintro e w1 ⟨ao, cap, rfl, hH, hb1⟩
        go_wp2
        go_ret2
        exact ⟨ret_pair HD.out, hb1.alloc hb1.size _⟩
      · have h0 : ¬ t < 0 := by omega
        go_enter Try.func21, Try.ntmps21
        go_wp2_with fail
        refine (HR _).mono ?_
        rintro e w1 ⟨ao, cap, rfl, hH, hb1⟩
        go_wp2
        go_ret2
        exact ⟨ret_pair HD.out, hb1.alloc hb1.size _⟩
    · obtain ⟨m, rfl⟩ := Int.eq_ofNat_of_zero_le (show 0 ≤ t by omega)
      have hm : m ≤ 10000 := by omega
      have HD : Hid (demandOf s.data.toList (m : Int) = (((wanted (tasksOf s.data.toList) m : Nat) : Int), 0)) := by unfold Hid demandOf; rw [if_neg (by simp [h1]), if_neg h2]; rfl
      clear h1 h2
      generalize tasksOf s.data.toList = L at *
      go_enter Try.func21, Try.ntmps21
      go_wp2_with fail
      refine (HR _).mono ?_
      rintro e w1 ⟨ao, cap, rfl, hH, hb1⟩
      obtain ⟨n, hn⟩ : ∃ n, n = L.length := ⟨_, rfl⟩
      rw [← hn]
      have HN : Hid (n = L.length) := hn
      clear hn
      go_wp2_with fail
      refine (wanted_by ao n cap L m _ HN.out hn8 (fun x hx => by have := hfi x hx; simp only [fine] at this; omega) hm (hH.later ((Below.refl _ _).alloc (Nat.le_refl _) _))).mono ?_
      rintro e w3 ⟨rfl, hb3⟩
      go_wp2
      go_ret2
      exact ⟨ret_pair HD.out, (hb1.alloc hb1.size _).trans (hb3.mono (by have := hb1.size; simp; omega))⟩
  · have HD : Hid (demandOf s.data.toList t = (0, (checkOf s.data.toList).1)) := by unfold Hid demandOf; rw [if_pos h1]
    have HR := fun w => read_no s w hs h1
    unfold readNo at HR
    generalize (checkOf s.data.toList).2 = c2 at *
    generalize (checkOf s.data.toList).1 = c1 at *
    have hne : (c1 != 0) = true := by simpa using h1
    go_enter Try.func21, Try.ntmps21
    go_wp2_with fail
    refine (HR _).mono ?_
    rintro e w1 ⟨rfl, hb1⟩
    go_wp2
    go_quiet (fail)
    go_wp2
    go_ret2
    exact ⟨ret_pair HD.out, belN (hb1.alloc hb1.size _) _⟩
end Go.Proofs.Ytdhofmnidlhjpab
