import Derived.Test.YtdhofmnidlhjpabCCalls2
import Derived.Test.YtdhofmnidlhjpabCPoints
import Derived.Test.YtdhofmnidlhjpabCLevel
namespace Go.Proofs.Ytdhofmnidlhjpab
open Go.RowKit

set_option maxRecDepth 100000 in
set_option maxHeartbeats 1600000 in
theorem test_calls (s : ByteArray) (B : Int) (w : World) (hs : s.size ≤ maxLen) (hB : B ≤ 9223372036854775807) :
    Calls Try.prog 23 #[.string s, .int .i64 B] w fun e w' => e = .returned (.tuple #[.int .i64 (testAns s.data.toList B).1.1, .int .i64 (testAns s.data.toList B).1.2, .int .i64 (testAns s.data.toList B).2]) ∧ Below w.heap.size w w' := by
  by_cases h1 : (checkOf s.data.toList).1 = 0
  · have hn8 := (set_facts _ h1).2.1
    have hx := set_bounds _ h1
    have HR := fun w => read_ok s w h1
    have hbu := busyOf_le (tasksOf s.data.toList)
    by_cases h2 : B < 0
    · have HD : Hid (testAns s.data.toList B = ((0, 0), 4)) := by unfold Hid testAns; rw [if_neg (by simp [h1]), if_pos h2]
      clear h1
      go_enter Try.func23, Try.ntmps23
      go_wp2_with fail
      refine (HR _).mono ?_
      rintro e w1 ⟨ao, cap, rfl, hH, hb1⟩
      go_wp2
      go_ret3
      exact ⟨ret_test HD.out, hb1.alloc hb1.size _⟩
    · obtain ⟨m, rfl⟩ := Int.eq_ofNat_of_zero_le (show 0 ≤ B by omega)
      cases hh : heavyB (tasksOf s.data.toList)
      · have HD : Hid (testAns s.data.toList (m : Int) = (testFrom (tasksOf s.data.toList) m (busyOf (tasksOf s.data.toList)) 1 0, 0)) := by unfold Hid testAns; rw [if_neg (by simp [h1]), if_neg h2, if_neg (by simp [hh])]; rfl
        generalize tasksOf s.data.toList = L at *
        have HHv : Hid (∀ (ao : Option Addr) (n cap : Nat) (w : World), n = L.length → HoldsA w ao L → Calls Try.prog 38 #[.slice ao n cap] w fun e w' => e = .returned (.bool false) ∧ Below w.heap.size w w') := by
          intro ao n cap w hn hH; have := is_heavy ao n cap L w hn hn8 hx hH; rw [hh] at this; exact this
        have HBu : Hid (∀ (ao : Option Addr) (n cap : Nat) (w : World), n = L.length → HoldsA w ao L → Calls Try.prog 39 #[.slice ao n cap] w fun e w' => e = .returned (.int .i64 (busyOf L)) ∧ Below w.heap.size w w') := by
          intro ao n cap w hn hH; exact busy_time ao n cap L w hn hn8 hx hH
        have HLo : Hid (∀ (ao : Option Addr) (n cap : Nat) (w : World), n = L.length → HoldsA w ao L → Calls Try.prog 40 #[.slice ao n cap, .int .i64 (busyOf L), .int .i64 m] w fun e w' => e = .returned (.tuple #[.int .i64 (testFrom L m (busyOf L) 1 0).1, .int .i64 (testFrom L m (busyOf L) 1 0).2]) ∧ Below w.heap.size w w') := by
          intro ao n cap w hn hH; exact look_at_points ao n cap L (busyOf L) m w hn hn8 hx hbu.2 (by omega) hH
        generalize busyOf L = Bu at *
        generalize testFrom L m Bu 1 0 = P at *
        obtain ⟨P1, P2⟩ := P
        dsimp only at *
        clear h1 hh h2
        go_enter Try.func23, Try.ntmps23
        go_wp2_with fail
        refine (HR _).mono ?_
        rintro e w1 ⟨ao, cap, rfl, hH, hb1⟩
        obtain ⟨n, hn⟩ : ∃ n, n = L.length := ⟨_, rfl⟩
        rw [← hn]
        have HN : Hid (n = L.length) := hn
        clear hn
        go_wp2_with fail
        refine (HHv.out ao n cap _ HN.out (held_alloc hH _)).mono ?_
        rintro e w2 ⟨rfl, hb2⟩
        have hH2 := (held_alloc hH _).later hb2
        have hbw := bel_alloc hb1 hb2
        obtain ⟨hc, hfz⟩ := bcell hb2
        have hz : w1.heap.size + 1 ≤ w2.heap.size := by have := hb2.size; simp at this; omega
        go_wp2_with fail
        refine (HBu.out ao n cap _ HN.out hH2).mono ?_
        rintro e w3 ⟨rfl, hb3⟩
        have hH3 := hH2.later hb3
        have hbw3 := bel_next hbw hb3
        obtain ⟨hc3, hfz3⟩ := bcell (bel_next hb2 hb3)
        have hz3 : w1.heap.size + 1 ≤ w3.heap.size := Nat.le_trans hz hb3.size
        clear hc hfz
        go_wp2_with fail
        refine (HLo.out ao n cap _ HN.out hH3).mono ?_
        rintro e w4 ⟨rfl, hb4⟩
        go_wp2
        go_ret3
        exact ⟨ret_test HD.out, bel_next hbw3 hb4⟩
      · have HD : Hid (testAns s.data.toList (m : Int) = ((2, 0), 0)) := by unfold Hid testAns; rw [if_neg (by simp [h1]), if_neg h2, if_pos hh]
        generalize tasksOf s.data.toList = L at *
        have HHv : Hid (∀ (ao : Option Addr) (n cap : Nat) (w : World), n = L.length → HoldsA w ao L → Calls Try.prog 38 #[.slice ao n cap] w fun e w' => e = .returned (.bool true) ∧ Below w.heap.size w w') := by
          intro ao n cap w hn hH; have := is_heavy ao n cap L w hn hn8 hx hH; rw [hh] at this; exact this
        clear h1 hh h2
        go_enter Try.func23, Try.ntmps23
        go_wp2_with fail
        refine (HR _).mono ?_
        rintro e w1 ⟨ao, cap, rfl, hH, hb1⟩
        obtain ⟨n, hn⟩ : ∃ n, n = L.length := ⟨_, rfl⟩
        rw [← hn]
        have HN : Hid (n = L.length) := hn
        clear hn
        go_wp2_with fail
        refine (HHv.out ao n cap _ HN.out (held_alloc hH _)).mono ?_
        rintro e w2 ⟨rfl, hb2⟩
        go_wp2
        go_ret3
        exact ⟨ret_test HD.out, bel_alloc hb1 hb2⟩
  · have HD : Hid (testAns s.data.toList B = ((0, 0), (checkOf s.data.toList).1)) := by unfold Hid testAns; rw [if_pos h1]
    have HR := fun w => read_no s w hs h1
    unfold readNo at HR
    generalize (checkOf s.data.toList).2 = c2 at *
    generalize (checkOf s.data.toList).1 = c1 at *
    have hne : (c1 != 0) = true := by simpa using h1
    go_enter Try.func23, Try.ntmps23
    go_wp2_with fail
    refine (HR _).mono ?_
    rintro e w1 ⟨rfl, hb1⟩
    go_wp2
    go_quiet (fail)
    go_wp2
    go_ret3
    exact ⟨ret_test HD.out, belN (hb1.alloc hb1.size _) _⟩

theorem code_test : CodeTest := fun s b w hs hb => test_calls s b w hs hb.2

set_option maxRecDepth 100000 in
set_option maxHeartbeats 1600000 in
theorem level_calls (s : ByteArray) (K0 : Int) (w : World) (hs : s.size ≤ maxLen) (hK0 : -9223372036854775808 ≤ K0) (hK1 : K0 ≤ 9223372036854775807) :
    Calls Try.prog 24 #[.string s, .int .i64 K0] w fun e w' => e = .returned (.tuple #[.bool (levelAns s.data.toList K0).1, .int .i64 (levelAns s.data.toList K0).2]) ∧ Below w.heap.size w w' := by
  by_cases h1 : (checkOf s.data.toList).1 = 0
  · have hn8 := (set_facts _ h1).2.1
    have hx := set_bounds _ h1
    have HR := fun w => read_ok s w h1
    by_cases h2 : K0 < 1 ∨ 20 < K0
    · have HD : Hid (levelAns s.data.toList K0 = (false, 4)) := by unfold Hid levelAns; rw [if_neg (by simp [h1]), if_pos h2]
      clear h1
      rcases h2 with h2 | h2
      · go_enter Try.func24, Try.ntmps24
        go_wp2_with fail
        refine (HR _).mono ?_
        rintro e w1 ⟨ao, cap, rfl, hH, hb1⟩
        go_wp2
        go_ret2
        exact ⟨ret_lev HD.out, hb1.alloc hb1.size _⟩
      · have h0 : ¬ K0 < 1 := by omega
        go_enter Try.func24, Try.ntmps24
        go_wp2_with fail
        refine (HR _).mono ?_
        rintro e w1 ⟨ao, cap, rfl, hH, hb1⟩
        go_wp2
        go_ret2
        exact ⟨ret_lev HD.out, hb1.alloc hb1.size _⟩
    · obtain ⟨K, rfl⟩ := Int.eq_ofNat_of_zero_le (show 0 ≤ K0 by omega)
      have hKa : 1 ≤ K := by omega
      have hKb : K ≤ 20 := by omega
      cases hh : heavyB (tasksOf s.data.toList)
      · have HD : Hid (levelAns s.data.toList (K : Int) = (levelAll (tasksOf s.data.toList) K (tasksOf s.data.toList), 0)) := by unfold Hid levelAns; rw [if_neg (by simp [h1]), if_neg h2, if_neg (by simp [hh])]; rfl
        generalize tasksOf s.data.toList = L at *
        have HHv : Hid (∀ (ao : Option Addr) (n cap : Nat) (w : World), n = L.length → HoldsA w ao L → Calls Try.prog 38 #[.slice ao n cap] w fun e w' => e = .returned (.bool false) ∧ Below w.heap.size w w') := by
          intro ao n cap w hn hH; have := is_heavy ao n cap L w hn hn8 hx hH; rw [hh] at this; exact this
        have HPl : Hid (∀ (ao : Option Addr) (n cap : Nat) (w : World), n = L.length → HoldsA w ao L → Calls Try.prog 41 #[.slice ao n cap, .int .i64 K] w fun e w' => e = .returned (.bool (levelAll L K L)) ∧ Below w.heap.size w w') := by
          intro ao n cap w hn hH; exact passes_level ao n cap L K w hn hn8 hx hKa hKb hH
        generalize levelAll L K L = P at *
        clear h1 hh h2 hK0 hK1
        go_enter Try.func24, Try.ntmps24
        go_wp2_with fail
        refine (HR _).mono ?_
        rintro e w1 ⟨ao, cap, rfl, hH, hb1⟩
        obtain ⟨n, hn⟩ : ∃ n, n = L.length := ⟨_, rfl⟩
        rw [← hn]
        have HN : Hid (n = L.length) := hn
        clear hn
        go_wp2_with fail
        refine (HHv.out ao n cap _ HN.out (held_alloc hH _)).mono ?_
        rintro e w2 ⟨rfl, hb2⟩
        have hH2 := (held_alloc hH _).later hb2
        have hbw := bel_alloc hb1 hb2
        obtain ⟨hc, hfz⟩ := bcell hb2
        have hz : w1.heap.size + 1 ≤ w2.heap.size := by have := hb2.size; simp at this; omega
        go_wp2_with fail
        refine (HPl.out ao n cap _ HN.out hH2).mono ?_
        rintro e w3 ⟨rfl, hb3⟩
        go_wp2
        go_ret2
        exact ⟨ret_lev HD.out, bel_next hbw hb3⟩
      · have HD : Hid (levelAns s.data.toList (K : Int) = (false, 0)) := by unfold Hid levelAns; rw [if_neg (by simp [h1]), if_neg h2, if_pos hh]
        generalize tasksOf s.data.toList = L at *
        have HHv : Hid (∀ (ao : Option Addr) (n cap : Nat) (w : World), n = L.length → HoldsA w ao L → Calls Try.prog 38 #[.slice ao n cap] w fun e w' => e = .returned (.bool true) ∧ Below w.heap.size w w') := by
          intro ao n cap w hn hH; have := is_heavy ao n cap L w hn hn8 hx hH; rw [hh] at this; exact this
        clear h1 hh h2 hK0 hK1
        go_enter Try.func24, Try.ntmps24
        go_wp2_with fail
        refine (HR _).mono ?_
        rintro e w1 ⟨ao, cap, rfl, hH, hb1⟩
        obtain ⟨n, hn⟩ : ∃ n, n = L.length := ⟨_, rfl⟩
        rw [← hn]
        have HN : Hid (n = L.length) := hn
        clear hn
        go_wp2_with fail
        refine (HHv.out ao n cap _ HN.out (held_alloc hH _)).mono ?_
        rintro e w2 ⟨rfl, hb2⟩
        go_wp2
        go_ret2
        exact ⟨ret_lev HD.out, bel_alloc hb1 hb2⟩
  · have HD : Hid (levelAns s.data.toList K0 = (false, (checkOf s.data.toList).1)) := by unfold Hid levelAns; rw [if_pos h1]
    have HR := fun w => read_no s w hs h1
    unfold readNo at HR
    generalize (checkOf s.data.toList).2 = c2 at *
    generalize (checkOf s.data.toList).1 = c1 at *
    have hne : (c1 != 0) = true := by simpa using h1
    go_enter Try.func24, Try.ntmps24
    go_wp2_with fail
    refine (HR _).mono ?_
    rintro e w1 ⟨rfl, hb1⟩
    go_wp2
    go_quiet (fail)
    go_wp2
    go_ret2
    exact ⟨ret_lev HD.out, belN (hb1.alloc hb1.size _) _⟩

theorem code_level : CodeLevel := fun s k w hs hk => level_calls s k w hs hk.1 hk.2
end Go.Proofs.Ytdhofmnidlhjpab
