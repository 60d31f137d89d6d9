import Derived.Test.YtdhofmnidlhjpabRTest
namespace Go.Proofs.Ytdhofmnidlhjpab
open Go.RowKit

/-- May Refute answer t behind the error e? -/
def refutedB (l : List UInt8) (t e : Int) : Bool :=
  if (checkOf l).1 ≠ 0 then (e == (checkOf l).1) && (t == 0) else
  if feasB (tasksOf l) = true then (e == 7) && (t == 0) else
  (e == 0) && decide (1 ≤ t) && decide (t ≤ 2520) && decide (t < (wanted (tasksOf l) t.toNat : Nat))

set_option maxRecDepth 100000 in
set_option maxHeartbeats 1600000 in
/-- Where Refute's answer is as it may be, the document says so. -/
theorem ref_Refuted (s : ByteArray) (t e : Int) (w : World) (hs : s.size ≤ maxLen) (h : refutedB s.data.toList t e = true) :
    Calls Try.prog 7 #[.string s, .int .i64 t, .int .i64 e] w fun r w' => r = .returned (.bool true) ∧ Below w.heap.size w w' := by
  unfold refutedB at h
  by_cases h1 : (checkOf s.data.toList).1 = 0
  · have hn8 := (set_facts _ h1).2.1
    have hx := set_bounds _ h1
    have HC := fun w => ref_check_ok s w hs h1
    have HK := fun w => ref_tasks_ok s w h1
    rw [if_neg (by simp [h1])] at h
    cases hh : feasB (tasksOf s.data.toList)
    · rw [if_neg (by simp [hh])] at h
      simp only [Bool.and_eq_true, beq_iff_eq, decide_eq_true_eq] at h
      obtain ⟨⟨⟨rfl, h2⟩, h3⟩, h4⟩ := h
      obtain ⟨m, rfl⟩ := Int.eq_ofNat_of_zero_le (show 0 ≤ t by omega)
      rw [Int.toNat_natCast] at h4
      generalize tasksOf s.data.toList = L at *
      have HHv : Hid (∀ (ao : Option Addr) (n cap : Nat) (w : World), n = L.length → HoldsA w ao L → Calls Try.prog 17 #[.slice ao n cap] w fun e w' => e = .returned (.bool false) ∧ ∃ q, w' = w.drewN q) := by
        intro ao n cap w hn hH; have := ref_feasible ao n cap L w hn hn8 hx hH; rw [hh] at this; exact this
      have HW : Hid (∀ (ao : Option Addr) (n cap : Nat) (w : World), n = L.length → HoldsA w ao L → Calls Try.prog 18 #[.slice ao n cap, .int .i64 m] w fun e w' => e = .returned (.int .i64 (wanted L m)) ∧ ∃ q, w' = w.drewN q) := by
        intro ao n cap w hn hH; exact ref_wanted ao n cap L m w hn hn8 hx (by omega) hH
      generalize wanted L m = W at *
      clear h1 hh
      go_enter Try.func7, Try.ntmps7
      go_wp2_with fail
      refine (HC _).mono ?_
      rintro e w1 ⟨rfl, hb1⟩
      go_wp2_with fail
      refine (HK _).mono ?_
      rintro e w2 ⟨ao, cap, rfl, hH, hb2⟩
      obtain ⟨n, hn⟩ : ∃ n, n = L.length := ⟨_, rfl⟩
      rw [← hn]
      have HN : Hid (n = L.length) := hn
      clear hn
      go_wp2_with fail
      refine (HHv.out ao n cap _ HN.out hH).mono ?_
      rintro e w3 ⟨rfl, q, rfl⟩
      go_wp2_with fail
      refine (HW.out ao n cap (w2.drewN q) HN.out hH).mono ?_
      rintro e w4 ⟨rfl, q', rfl⟩
      go_wp2
      go_ret
      exact ⟨ret_boolR (by simp), belN (hb1.trans (hb2.mono hb1.size)) _⟩
    · rw [if_pos hh] at h
      simp only [Bool.and_eq_true, beq_iff_eq] at h
      obtain ⟨rfl, rfl⟩ := h
      generalize tasksOf s.data.toList = L at *
      have HHv : Hid (∀ (ao : Option Addr) (n cap : Nat) (w : World), n = L.length → HoldsA w ao L → Calls Try.prog 17 #[.slice ao n cap] w fun e w' => e = .returned (.bool true) ∧ ∃ q, w' = w.drewN q) := by
        intro ao n cap w hn hH; have := ref_feasible ao n cap L w hn hn8 hx hH; rw [hh] at this; exact this
      clear h1 hh
      go_enter Try.func7, Try.ntmps7
      go_wp2_with fail
      refine (HC _).mono ?_
      rintro e w1 ⟨rfl, hb1⟩
      go_wp2_with fail
      refine (HK _).mono ?_
      rintro e w2 ⟨ao, cap, rfl, hH, hb2⟩
      obtain ⟨n, hn⟩ : ∃ n, n = L.length := ⟨_, rfl⟩
      rw [← hn]
      have HN : Hid (n = L.length) := hn
      clear hn
      go_wp2_with fail
      refine (HHv.out ao n cap _ HN.out hH).mono ?_
      rintro e w3 ⟨rfl, q, rfl⟩
      go_wp2
      go_ret
      exact ⟨rfl, belN (hb1.trans (hb2.mono hb1.size)) _⟩
  · rw [if_pos h1] at h
    simp only [Bool.and_eq_true, beq_iff_eq] at h
    obtain ⟨rfl, rfl⟩ := h
    have HC := fun w => ref_check s w hs
    have hck := checkOf_bound s.data.toList
    generalize (checkOf s.data.toList).2 = c2 at *
    generalize (checkOf s.data.toList).1 = c1 at *
    have hne : (c1 != 0) = true := by simpa using h1
    go_enter Try.func7, Try.ntmps7
    go_wp2_with fail
    refine (HC _).mono ?_
    rintro e w1 ⟨rfl, hb1⟩
    go_wp2
    go_ret
    exact ⟨rfl, hb1⟩
end Go.Proofs.Ytdhofmnidlhjpab
