import Derived.Test.YtdhofmnidlhjpabTTrace
namespace Go.Proofs.Ytdhofmnidlhjpab
open Go.RowKit

/-- Free's two answers. -/
def freeAns (l ev : List UInt8) : List UInt8 × Int :=
  if 31 < l.length ∨ 9000 < ev.length then ([], 1) else
  if (checkOf l).1 ≠ 0 then ([], (checkOf l).1) else
  if evOk (tasksOf l).length ev = false then ([], 8) else (traceOf (tasksOf l) st0 ev, 0)

/-- Run's two answers. -/
def runAns (l ev : List UInt8) : List UInt8 × Int :=
  if (freeAns l ev).2 ≠ 0 then ([], (freeAns l ev).2) else
  if feasB (tasksOf l) = false then ([], 6) else freeAns l ev

theorem ret_free {p : List UInt8 × Int} {a : List UInt8} {S : ByteArray} {b : Int} (h : p = (a, b)) (hS : S = ⟨a.toArray⟩) : Ending.returned (.tuple #[.string S, .int .i64 b]) = .returned (.tuple #[.string ⟨p.1.toArray⟩, .int .i64 p.2]) := by rw [h, hS]

theorem freeAns_err (l ev : List UInt8) : 0 ≤ (freeAns l ev).2 ∧ (freeAns l ev).2 ≤ 8 ∧ ((freeAns l ev).2 ≠ 0 → (freeAns l ev).1 = []) := by
  have hk := checkOf_bound l
  unfold freeAns
  by_cases h0 : 31 < l.length ∨ 9000 < ev.length
  · rw [if_pos h0]; simp
  · rw [if_neg h0]
    by_cases h1 : (checkOf l).1 ≠ 0
    · rw [if_pos h1]; simp only; refine ⟨hk.1, by omega, fun _ => trivial⟩
    · rw [if_neg h1]
      by_cases h2 : evOk (tasksOf l).length ev = false
      · rw [if_pos h2]; simp
      · rw [if_neg h2]; simp

/-- Where Free does not refuse. -/
theorem freeAns_ok (l ev : List UInt8) (h : (freeAns l ev).2 = 0) : l.length ≤ 31 ∧ ev.length ≤ 9000 ∧ (checkOf l).1 = 0 ∧ evOk (tasksOf l).length ev = true ∧ freeAns l ev = (traceOf (tasksOf l) st0 ev, 0) := by
  have hk := checkOf_bound l
  unfold freeAns at h ⊢
  by_cases h0 : 31 < l.length ∨ 9000 < ev.length
  · rw [if_pos h0] at h; simp at h
  · rw [if_neg h0] at h ⊢
    by_cases h1 : (checkOf l).1 ≠ 0
    · rw [if_pos h1] at h; exact absurd h h1
    · rw [if_neg h1] at h ⊢
      by_cases h2 : evOk (tasksOf l).length ev = false
      · rw [if_pos h2] at h; simp at h
      · rw [if_neg h2]
        exact ⟨by omega, by omega, by omega, by simpa using h2, rfl⟩

set_option maxRecDepth 100000 in
set_option maxHeartbeats 1600000 in
theorem ref_Free (s ev : ByteArray) (w : World) (hs : s.size ≤ maxLen) (hev : ev.size ≤ maxLen) :
    Calls Try.prog 19 #[.string s, .string ev] w fun e w' => e = .returned (.tuple #[.string ⟨(freeAns s.data.toList ev.data.toList).1.toArray⟩, .int .i64 (freeAns s.data.toList ev.data.toList).2]) ∧ Below w.heap.size w w' := by
  have HS : Hid (s.size ≤ maxLen) := hs
  unfold maxLen at hs hev
  by_cases h0 : 31 < s.size ∨ 9000 < ev.size
  · have HD : Hid (freeAns s.data.toList ev.data.toList = ([], 1)) := by unfold Hid freeAns; rw [if_pos (by simpa using h0)]
    by_cases h1 : 31 < s.size
    · clear h0
      go_enter Try.func19, Try.ntmps19
      go_wp2
      go_ret2
      exact ⟨ret_free HD.out rfl, Below.refl _ _⟩
    · have h2 : 9000 < ev.size := by omega
      clear h0
      go_enter Try.func19, Try.ntmps19
      go_wp2
      go_ret2
      exact ⟨ret_free HD.out rfl, Below.refl _ _⟩
  · have h0' : ¬ (31 < s.data.toList.length ∨ 9000 < ev.data.toList.length) := by simpa using h0
    have hs1 : s.size ≤ 31 := by omega
    have hs2 : ev.size ≤ 9000 := by omega
    by_cases h1 : (checkOf s.data.toList).1 = 0
    · have hn8 := (set_facts _ h1).2.1
      have hn1 := (set_facts _ h1).2.2.1
      have hx := set_bounds _ h1
      have HC := fun w => ref_check_ok s w HS.out h1
      have HK := fun w => ref_tasks_ok s w h1
      cases h2 : evOk (tasksOf s.data.toList).length ev.data.toList
      · have HD : Hid (freeAns s.data.toList ev.data.toList = ([], 8)) := by unfold Hid freeAns; rw [if_neg h0', if_neg (by simp [h1]), if_pos h2]
        have HE : Hid (∀ w, Calls Try.prog 36 #[.string ev, .int .i64 (tasksOf s.data.toList).length] w fun e w' => e = .returned (.bool false) ∧ w' = w) := by
          intro w; have := ref_events ev (tasksOf s.data.toList).length w hs2 hn8; rw [h2] at this; exact this
        generalize tasksOf s.data.toList = L at *
        clear h0 h0' h1 h2
        obtain ⟨n, hn⟩ : ∃ n, n = L.length := ⟨_, rfl⟩
        rw [← hn] at HE HK hn8
        clear hn
        go_enter Try.func19, Try.ntmps19
        go_wp2_with fail
        refine (HC _).mono ?_
        rintro e w1 ⟨rfl, hb1⟩
        go_wp2_with fail
        refine (HK _).mono ?_
        rintro e w2 ⟨ao, cap, rfl, hH, hb2⟩
        go_wp2_with fail
        refine (HE.out _).mono ?_
        rintro e w3 ⟨rfl, rfl⟩
        go_wp2
        go_ret2
        exact ⟨ret_free HD.out rfl, hb1.trans (hb2.mono hb1.size)⟩
      · have HD : Hid (freeAns s.data.toList ev.data.toList = (traceOf (tasksOf s.data.toList) st0 ev.data.toList, 0)) := by unfold Hid freeAns; rw [if_neg h0', if_neg (by simp [h1]), if_neg (by simp [h2])]
        have HE : Hid (∀ w, Calls Try.prog 36 #[.string ev, .int .i64 (tasksOf s.data.toList).length] w fun e w' => e = .returned (.bool true) ∧ w' = w) := by
          intro w; have := ref_events ev (tasksOf s.data.toList).length w hs2 hn8; rw [h2] at this; exact this
        have HT : Hid (∀ (ao : Option Addr) (cap : Nat) (w : World), HoldsA w ao (tasksOf s.data.toList) → Calls Try.prog 37 #[.slice ao (tasksOf s.data.toList).length cap, .string ev] w fun e w' => e = .returned (.string ⟨(traceOf (tasksOf s.data.toList) st0 ev.data.toList).toArray⟩) ∧ Below w.heap.size w w') :=
          fun ao cap w hH => ref_trace ao _ cap _ ev w rfl hn8 hn1 hx hs2 h2 hH
        generalize tasksOf s.data.toList = L at *
        generalize traceOf L st0 ev.data.toList = tr at *
        clear h0 h0' h1 h2
        obtain ⟨n, hn⟩ : ∃ n, n = L.length := ⟨_, rfl⟩
        rw [← hn] at HE HK hn8 HT
        clear hn
        go_enter Try.func19, Try.ntmps19
        go_wp2_with fail
        refine (HC _).mono ?_
        rintro e w1 ⟨rfl, hb1⟩
        go_wp2_with fail
        refine (HK _).mono ?_
        rintro e w2 ⟨ao, cap, rfl, hH, hb2⟩
        go_wp2_with fail
        refine (HE.out _).mono ?_
        rintro e w3 ⟨rfl, rfl⟩
        go_wp2_with fail
        refine (HT.out ao cap _ hH).mono ?_
        rintro e w4 ⟨rfl, hb4⟩
        go_wp2
        go_ret2
        exact ⟨ret_free HD.out rfl, (hb1.trans (hb2.mono hb1.size)).trans (hb4.mono (Nat.le_trans hb1.size hb2.size))⟩
    · have HD : Hid (freeAns s.data.toList ev.data.toList = ([], (checkOf s.data.toList).1)) := by unfold Hid freeAns; rw [if_neg h0', if_pos h1]
      have HC := fun w => ref_check s w HS.out
      have hck := checkOf_bound s.data.toList
      generalize (checkOf s.data.toList).2 = c2 at *
      generalize (checkOf s.data.toList).1 = c1 at *
      have hne : (c1 != 0) = true := by simpa using h1
      clear h0 h0'
      go_enter Try.func19, Try.ntmps19
      go_wp2_with fail
      refine (HC _).mono ?_
      rintro e w1 ⟨rfl, hb1⟩
      go_wp2
      go_ret2
      exact ⟨ret_free HD.out rfl, hb1⟩

set_option maxRecDepth 100000 in
set_option maxHeartbeats 1600000 in
theorem ref_Run (s ev : ByteArray) (w : World) (hs : s.size ≤ maxLen) (hev : ev.size ≤ maxLen) :
    Calls Try.prog 68 #[.string s, .string ev] w fun e w' => e = .returned (.tuple #[.string ⟨(runAns s.data.toList ev.data.toList).1.toArray⟩, .int .i64 (runAns s.data.toList ev.data.toList).2]) ∧ Below w.heap.size w w' := by
  have HF := fun w => ref_Free s ev w hs hev
  have hfe := freeAns_err s.data.toList ev.data.toList
  by_cases h1 : (freeAns s.data.toList ev.data.toList).2 = 0
  · obtain ⟨a1, a2, a3, a4, a5⟩ := freeAns_ok _ _ h1
    have hn8 := (set_facts _ a3).2.1
    have hx := set_bounds _ a3
    have HK := fun w => ref_tasks_ok s w a3
    rw [a5] at HF
    dsimp only at HF
    cases hh : feasB (tasksOf s.data.toList)
    · have HD : Hid (runAns s.data.toList ev.data.toList = ([], 6)) := by unfold Hid runAns; rw [if_neg (by simp [h1]), if_pos hh]
      generalize tasksOf s.data.toList = L at *
      have HHv : Hid (∀ (ao : Option Addr) (n cap : Nat) (w : World), n = L.length → HoldsA w ao L → Calls Try.prog 17 #[.slice ao n cap] w fun e w' => e = .returned (.bool false) ∧ ∃ q, w' = w.drewN q) := by
        intro ao n cap w hn hH; have := ref_feasible ao n cap L w hn hn8 hx hH; rw [hh] at this; exact this
      generalize traceOf L st0 ev.data.toList = tr at *
      clear h1 hh a5 hfe
      go_enter Try.func68, Try.ntmps68
      go_wp2_with fail
      refine (HF _).mono ?_
      rintro e w1 ⟨rfl, hb1⟩
      go_wp2_with fail
      refine (HK _).mono ?_
      rintro e w2 ⟨ao, cap, rfl, hH, hb2⟩
      obtain ⟨n, hn⟩ : ∃ n, n = L.length := ⟨_, rfl⟩
      rw [← hn]
      have HN : Hid (n = L.length) := hn
      clear hn
      go_wp2_with fail
      refine (HHv.out ao n cap _ HN.out hH).mono ?_
      rintro e w3 ⟨rfl, q, rfl⟩
      go_wp2
      go_ret2
      exact ⟨ret_free HD.out rfl, belN (hb1.trans (hb2.mono hb1.size)) _⟩
    · have HD : Hid (runAns s.data.toList ev.data.toList = (traceOf (tasksOf s.data.toList) st0 ev.data.toList, 0)) := by unfold Hid runAns; rw [if_neg (by simp [h1]), if_neg (by simp [hh]), a5]
      generalize tasksOf s.data.toList = L at *
      have HHv : Hid (∀ (ao : Option Addr) (n cap : Nat) (w : World), n = L.length → HoldsA w ao L → Calls Try.prog 17 #[.slice ao n cap] w fun e w' => e = .returned (.bool true) ∧ ∃ q, w' = w.drewN q) := by
        intro ao n cap w hn hH; have := ref_feasible ao n cap L w hn hn8 hx hH; rw [hh] at this; exact this
      generalize traceOf L st0 ev.data.toList = tr at *
      clear h1 hh a5 hfe
      go_enter Try.func68, Try.ntmps68
      go_wp2_with fail
      refine (HF _).mono ?_
      rintro e w1 ⟨rfl, hb1⟩
      go_wp2_with fail
      refine (HK _).mono ?_
      rintro e w2 ⟨ao, cap, rfl, hH, hb2⟩
      obtain ⟨n, hn⟩ : ∃ n, n = L.length := ⟨_, rfl⟩
      rw [← hn]
      have HN : Hid (n = L.length) := hn
      clear hn
      go_wp2_with fail
      refine (HHv.out ao n cap _ HN.out hH).mono ?_
      rintro e w3 ⟨rfl, q, rfl⟩
      go_wp2
      go_ret2
      exact ⟨ret_free HD.out rfl, belN (hb1.trans (hb2.mono hb1.size)) _⟩
  · have HD : Hid (runAns s.data.toList ev.data.toList = ([], (freeAns s.data.toList ev.data.toList).2)) := by unfold Hid runAns; rw [if_pos h1]
    generalize (freeAns s.data.toList ev.data.toList).1 = f1 at *
    generalize (freeAns s.data.toList ev.data.toList).2 = f2 at *
    have hne : (f2 != 0) = true := by simpa using h1
    have b1 := hfe.1
    have b2 := hfe.2.1
    clear hfe h1
    go_enter Try.func68, Try.ntmps68
    go_wp2_with fail
    refine (HF _).mono ?_
    rintro e w1 ⟨rfl, hb1⟩
    go_wp2
    go_ret2
    exact ⟨ret_free HD.out rfl, hb1⟩
end Go.Proofs.Ytdhofmnidlhjpab
