import Derived.Test.YtdhofmnidlhjpabCCalls
import Derived.Test.YtdhofmnidlhjpabCHeavy
import Derived.Test.YtdhofmnidlhjpabCBusy
import Derived.Test.YtdhofmnidlhjpabLSpec
namespace Go.Proofs.Ytdhofmnidlhjpab
open Go.RowKit

theorem held_alloc {w : World} {ao : Option Addr} {l : List Tk} (h : HoldsA w ao l) (o : Obj) : HoldsA (w.alloc o) ao l := h.later ((Below.refl _ _).alloc (Nat.le_refl _) _)
theorem bel_alloc {w w1 w2 : World} {o : Obj} (hb1 : Below w.heap.size w w1) (hb2 : Below (w1.alloc o).heap.size (w1.alloc o) w2) : Below w.heap.size w w2 := (hb1.alloc hb1.size o).trans (hb2.mono (by have := hb1.size; simp; omega))
theorem bel_next {w w1 w2 : World} (hb1 : Below w.heap.size w w1) (hb2 : Below w1.heap.size w1 w2) : Below w.heap.size w w2 := hb1.trans (hb2.mono hb1.size)

set_option maxRecDepth 100000 in
set_option maxHeartbeats 1600000 in
theorem code_busy : CodeBusy := by
  intro s w hs
  by_cases h1 : (checkOf s.data.toList).1 = 0
  · have hn8 := (set_facts _ h1).2.1
    have hx := set_bounds _ h1
    have HR := fun w => read_ok s w h1
    have hbu := busyOf_le (tasksOf s.data.toList)
    cases hh : heavyB (tasksOf s.data.toList)
    · have HD : Hid (busyAns s.data.toList = (((busyOf (tasksOf s.data.toList) : Nat) : Int), 0)) := by unfold Hid busyAns; rw [if_neg (by simp [h1]), if_neg (by simp [hh])]
      generalize tasksOf s.data.toList = L at *
      have HHv : Hid (∀ (ao : Option Addr) (n cap : Nat) (w : World), n = L.length → HoldsA w ao L → Calls Try.prog 38 #[.slice ao n cap] w fun e w' => e = .returned (.bool false) ∧ Below w.heap.size w w') := by
        intro ao n cap w hn hH; have := is_heavy ao n cap L w hn hn8 hx hH; rw [hh] at this; exact this
      clear h1 hh
      go_enter Try.func22, Try.ntmps22
      go_wp2_with fail
      refine (HR _).mono ?_
      rintro e w1 ⟨ao, cap, rfl, hH, hb1⟩
      obtain ⟨n, hn⟩ : ∃ n, n = L.length := ⟨_, rfl⟩
      rw [← hn]
      have HN : Hid (n = L.length) := hn
      clear hn
      go_wp2_with fail
      refine (HHv.out ao n cap _ HN.out (held_alloc hH _)).mono ?_
      rintro e w2 ⟨rfl, hb2⟩
      have hH2 := (held_alloc hH _).later hb2
      have hbw := bel_alloc hb1 hb2
      obtain ⟨hc, hfz⟩ := bcell hb2
      have hz : w1.heap.size + 1 ≤ w2.heap.size := by have := hb2.size; simp at this; omega
      go_wp2_with fail
      refine (busy_time ao n cap L _ HN.out hn8 hx hH2).mono ?_
      rintro e w3 ⟨rfl, hb3⟩
      go_wp2
      go_ret2
      exact ⟨ret_pair HD.out, bel_next hbw hb3⟩
    · have HD : Hid (busyAns s.data.toList = (0, 5)) := by unfold Hid busyAns; rw [if_neg (by simp [h1]), if_pos hh]
      generalize tasksOf s.data.toList = L at *
      have HHv : Hid (∀ (ao : Option Addr) (n cap : Nat) (w : World), n = L.length → HoldsA w ao L → Calls Try.prog 38 #[.slice ao n cap] w fun e w' => e = .returned (.bool true) ∧ Below w.heap.size w w') := by
        intro ao n cap w hn hH; have := is_heavy ao n cap L w hn hn8 hx hH; rw [hh] at this; exact this
      clear h1 hh
      go_enter Try.func22, Try.ntmps22
      go_wp2_with fail
      refine (HR _).mono ?_
      rintro e w1 ⟨ao, cap, rfl, hH, hb1⟩
      obtain ⟨n, hn⟩ : ∃ n, n = L.length := ⟨_, rfl⟩
      rw [← hn]
      have HN : Hid (n = L.length) := hn
      clear hn
      go_wp2_with fail
      refine (HHv.out ao n cap _ HN.out (held_alloc hH _)).mono ?_
      rintro e w2 ⟨rfl, hb2⟩
      go_wp2
      go_ret2
      exact ⟨ret_pair HD.out, bel_alloc hb1 hb2⟩
  · have HD : Hid (busyAns s.data.toList = (0, (checkOf s.data.toList).1)) := by unfold Hid busyAns; rw [if_pos h1]
    have HR := fun w => read_no s w hs h1
    unfold readNo at HR
    generalize (checkOf s.data.toList).2 = c2 at *
    generalize (checkOf s.data.toList).1 = c1 at *
    have hne : (c1 != 0) = true := by simpa using h1
    go_enter Try.func22, Try.ntmps22
    go_wp2_with fail
    refine (HR _).mono ?_
    rintro e w1 ⟨rfl, hb1⟩
    go_wp2
    go_quiet (fail)
    go_wp2
    go_ret2
    exact ⟨ret_pair HD.out, belN (hb1.alloc hb1.size _) _⟩

/-- Refute's answers: the first time. -/
def refF (l : List UInt8) : Int × Int :=
  if (checkOf l).1 ≠ 0 then (0, (checkOf l).1) else
  if feasB (tasksOf l) = true then (0, 7) else ((tooOf (tasksOf l) : Nat), 0)

theorem refF_may (l : List UInt8) : refutedB l (refF l).1 (refF l).2 = true := by
  by_cases h1 : (checkOf l).1 = 0
  · cases hh : feasB (tasksOf l)
    · have e : refF l = (((tooOf (tasksOf l) : Nat) : Int), 0) := by unfold refF; rw [if_neg (by simp [h1]), if_neg (by simp [hh])]
      obtain ⟨h2, h3, h4⟩ := late_not _ hh
      rw [e]
      unfold refutedB
      rw [if_neg (by simp [h1]), if_neg (by simp [hh])]
      simp only [Int.toNat_natCast, Bool.and_eq_true, beq_iff_eq, decide_eq_true_eq]
      refine ⟨⟨⟨trivial, by omega⟩, by omega⟩, by omega⟩
    · have e : refF l = (0, 7) := by unfold refF; rw [if_neg (by simp [h1]), if_pos hh]
      rw [e]
      unfold refutedB
      rw [if_neg (by simp [h1]), if_pos hh]
      rfl
  · have e : refF l = (0, (checkOf l).1) := by unfold refF; rw [if_pos h1]
    rw [e]
    unfold refutedB
    rw [if_pos h1]
    simp

set_option maxRecDepth 100000 in
set_option maxHeartbeats 1600000 in
theorem refute_calls (s : ByteArray) (w : World) (hs : s.size ≤ maxLen) :
    Calls Try.prog 5 #[.string s] w fun e w' => e = .returned (.tuple #[.int .i64 (refF s.data.toList).1, .int .i64 (refF s.data.toList).2]) ∧ Below w.heap.size w w' := by
  by_cases h1 : (checkOf s.data.toList).1 = 0
  · have hn8 := (set_facts _ h1).2.1
    have hx := set_bounds _ h1
    have HR := fun w => read_ok s w h1
    cases hh : feasB (tasksOf s.data.toList)
    · have HD : Hid (refF s.data.toList = (((tooOf (tasksOf s.data.toList) : Nat) : Int), 0)) := by unfold Hid refF; rw [if_neg (by simp [h1]), if_neg (by simp [hh])]
      obtain ⟨q1, q2, _⟩ := late_not _ hh
      generalize tasksOf s.data.toList = L at *
      have HF := fun ao n cap w hn hH => first_late ao n cap L w hn hn8 hx hH
      generalize tooOf L = q at *
      have hq : ((q : Int) == 0) = false := by simp; omega
      clear h1 hh
      go_enter Try.func5, Try.ntmps5
      go_wp2_with fail
      refine (HR _).mono ?_
      rintro e w1 ⟨ao, cap, rfl, hH, hb1⟩
      obtain ⟨n, hn⟩ : ∃ n, n = L.length := ⟨_, rfl⟩
      rw [← hn]
      have HN : Hid (n = L.length) := hn
      clear hn
      go_wp2_with fail
      refine (HF ao n cap _ HN.out (held_alloc hH _)).mono ?_
      rintro e w2 ⟨rfl, hb2⟩
      go_wp2
      go_ret2
      exact ⟨ret_pair HD.out, bel_alloc hb1 hb2⟩
    · have HD : Hid (refF s.data.toList = (0, 7)) := by unfold Hid refF; rw [if_neg (by simp [h1]), if_pos hh]
      generalize tasksOf s.data.toList = L at *
      have HF : Hid (∀ (ao : Option Addr) (n cap : Nat) (w : World), n = L.length → HoldsA w ao L → Calls Try.prog 13 #[.slice ao n cap] w fun e w' => e = .returned (.int .i64 0) ∧ Below w.heap.size w w') := by
        intro ao n cap w hn hH; have := first_late ao n cap L w hn hn8 hx hH; rw [late_feas L hh] at this; exact this
      clear h1 hh
      go_enter Try.func5, Try.ntmps5
      go_wp2_with fail
      refine (HR _).mono ?_
      rintro e w1 ⟨ao, cap, rfl, hH, hb1⟩
      obtain ⟨n, hn⟩ : ∃ n, n = L.length := ⟨_, rfl⟩
      rw [← hn]
      have HN : Hid (n = L.length) := hn
      clear hn
      go_wp2_with fail
      refine (HF.out ao n cap _ HN.out (held_alloc hH _)).mono ?_
      rintro e w2 ⟨rfl, hb2⟩
      go_wp2
      go_ret2
      exact ⟨ret_pair HD.out, bel_alloc hb1 hb2⟩
  · have HD : Hid (refF s.data.toList = (0, (checkOf s.data.toList).1)) := by unfold Hid refF; rw [if_pos h1]
    have HR := fun w => read_no s w hs h1
    unfold readNo at HR
    generalize (checkOf s.data.toList).2 = c2 at *
    generalize (checkOf s.data.toList).1 = c1 at *
    have hne : (c1 != 0) = true := by simpa using h1
    go_enter Try.func5, Try.ntmps5
    go_wp2_with fail
    refine (HR _).mono ?_
    rintro e w1 ⟨rfl, hb1⟩
    go_wp2
    go_quiet (fail)
    go_wp2
    go_ret2
    exact ⟨ret_pair HD.out, belN (hb1.alloc hb1.size _) _⟩

theorem code_refute : CodeRefute refF := ⟨refF_may, refute_calls⟩
end Go.Proofs.Ytdhofmnidlhjpab
