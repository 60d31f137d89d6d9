import Derived.Test.YtdhofmnidlhjpabRBusy
import Derived.Test.YtdhofmnidlhjpabRPoint
import Derived.Test.YtdhofmnidlhjpabRDemand
namespace Go.Proofs.Ytdhofmnidlhjpab
open Go.RowKit

/-- The bounds of a set's tasks, as the walks ask them. -/
theorem set_bounds (l : List UInt8) (h : (checkOf l).1 = 0) : ∀ x ∈ tasksOf l, x.c ≤ 9 ∧ x.d ≤ 9 ∧ 1 ≤ x.t ∧ x.t ≤ 9 := by
  intro x hx
  have := (set_facts l h).2.2.2.2 x hx
  simp only [fine] at this
  omega

theorem ref_tasks_ok (s : ByteArray) (w : World) (h0 : (checkOf s.data.toList).1 = 0) :
    Calls Try.prog 16 #[.string s] w fun e w' => ∃ ao cap, e = .returned (.slice ao (tasksOf s.data.toList).length cap) ∧ HoldsA w' ao (tasksOf s.data.toList) ∧ Below w.heap.size w w' := by
  obtain ⟨hf, _, _, hl, _⟩ := set_facts _ h0
  refine (ref_tasks s w (by simpa using hl) hf).mono ?_
  rintro e w' ⟨v, rfl, hown, hb⟩
  obtain ⟨ao, cap, rfl, hH⟩ := holds_of_owns hown
  exact ⟨ao, cap, rfl, hH, hb⟩

theorem ref_check_ok (s : ByteArray) (w : World) (hs : s.size ≤ maxLen) (h0 : (checkOf s.data.toList).1 = 0) :
    Calls Try.prog 15 #[.string s] w fun e w' => e = .returned (.tuple #[.int .i64 0, .int .i64 0]) ∧ Below w.heap.size w w' := by
  have := ref_check s w hs
  rw [(checkOf_zero _ h0).2.2.2] at this
  exact this

/-- Busy's two answers. -/
def busyAns (l : List UInt8) : Int × Int :=
  if (checkOf l).1 ≠ 0 then (0, (checkOf l).1) else
  if heavyB (tasksOf l) = true then (0, 5) else ((busyOf (tasksOf l) : Nat), 0)

theorem ret_trip {p : Int × Int} {a b c c' : Int} (h : p = (a, b)) (hc : c' = c) : Ending.returned (.tuple #[.int .i64 a, .int .i64 b, .int .i64 c]) = .returned (.tuple #[.int .i64 p.1, .int .i64 p.2, .int .i64 c']) := by rw [h, hc]

set_option maxRecDepth 100000 in
set_option maxHeartbeats 1600000 in
theorem ref_Busy (s : ByteArray) (w : World) (hs : s.size ≤ maxLen) :
    Calls Try.prog 64 #[.string s] w fun e w' => e = .returned (.tuple #[.int .i64 (busyAns s.data.toList).1, .int .i64 (busyAns s.data.toList).2]) ∧ Below w.heap.size w w' := by
  by_cases h1 : (checkOf s.data.toList).1 = 0
  · have hn8 := (set_facts _ h1).2.1
    have hx := set_bounds _ h1
    have HC := fun w => ref_check_ok s w hs h1
    have HK := fun w => ref_tasks_ok s w h1
    have hbu := busyOf_le (tasksOf s.data.toList)
    cases hh : heavyB (tasksOf s.data.toList)
    · have HD : Hid (busyAns s.data.toList = (((busyOf (tasksOf s.data.toList) : Nat) : Int), 0)) := by unfold Hid busyAns; rw [if_neg (by simp [h1]), if_neg (by simp [hh])]
      generalize tasksOf s.data.toList = L at *
      have HHv : Hid (∀ (ao : Option Addr) (n cap : Nat) (w : World), n = L.length → HoldsA w ao L → Calls Try.prog 76 #[.slice ao n cap] w fun e w' => e = .returned (.bool false) ∧ ∃ q, w' = w.drewN q) := by
        intro ao n cap w hn hH; have := ref_heavy ao n cap L w hn hn8 hx hH; rw [hh] at this; exact this
      clear h1 hh
      go_enter Try.func64, Try.ntmps64
      go_wp2_with fail
      refine (HC _).mono ?_
      rintro e w1 ⟨rfl, hb1⟩
      go_wp2_with fail
      refine (HK _).mono ?_
      rintro e w2 ⟨ao, cap, rfl, hH, hb2⟩
      obtain ⟨n, hn⟩ : ∃ n, n = L.length := ⟨_, rfl⟩
      rw [← hn]
      have HN : Hid (n = L.length) := hn
      clear hn
      go_wp2_with fail
      refine (HHv.out ao n cap _ HN.out hH).mono ?_
      rintro e w3 ⟨rfl, q, rfl⟩
      go_wp2_with fail
      refine (ref_busy ao n cap L (w2.drewN q) HN.out hn8 hx hH).mono ?_
      rintro e w4 ⟨rfl, q', rfl⟩
      go_wp2
      go_ret2
      exact ⟨ret_pair HD.out, belN (hb1.trans (hb2.mono hb1.size)) _⟩
    · have HD : Hid (busyAns s.data.toList = (0, 5)) := by unfold Hid busyAns; rw [if_neg (by simp [h1]), if_pos hh]
      generalize tasksOf s.data.toList = L at *
      have HHv : Hid (∀ (ao : Option Addr) (n cap : Nat) (w : World), n = L.length → HoldsA w ao L → Calls Try.prog 76 #[.slice ao n cap] w fun e w' => e = .returned (.bool true) ∧ ∃ q, w' = w.drewN q) := by
        intro ao n cap w hn hH; have := ref_heavy ao n cap L w hn hn8 hx hH; rw [hh] at this; exact this
      clear h1 hh
      go_enter Try.func64, Try.ntmps64
      go_wp2_with fail
      refine (HC _).mono ?_
      rintro e w1 ⟨rfl, hb1⟩
      go_wp2_with fail
      refine (HK _).mono ?_
      rintro e w2 ⟨ao, cap, rfl, hH, hb2⟩
      obtain ⟨n, hn⟩ : ∃ n, n = L.length := ⟨_, rfl⟩
      rw [← hn]
      have HN : Hid (n = L.length) := hn
      clear hn
      go_wp2_with fail
      refine (HHv.out ao n cap _ HN.out hH).mono ?_
      rintro e w3 ⟨rfl, q, rfl⟩
      go_wp2
      go_ret2
      exact ⟨ret_pair HD.out, belN (hb1.trans (hb2.mono hb1.size)) _⟩
  · have HD : Hid (busyAns s.data.toList = (0, (checkOf s.data.toList).1)) := by unfold Hid busyAns; rw [if_pos h1]
    have HC := fun w => ref_check s w hs
    have hck := checkOf_bound s.data.toList
    generalize (checkOf s.data.toList).2 = c2 at *
    generalize (checkOf s.data.toList).1 = c1 at *
    have hne : (c1 != 0) = true := by simpa using h1
    go_enter Try.func64, Try.ntmps64
    go_wp2_with fail
    refine (HC _).mono ?_
    rintro e w1 ⟨rfl, hb1⟩
    go_wp2
    go_ret2
    exact ⟨ret_pair HD.out, hb1⟩

/-- Test's first two answers, and its error. -/
def testAns (l : List UInt8) (b : Int) : (Int × Int) × Int :=
  if (checkOf l).1 ≠ 0 then ((0, 0), (checkOf l).1) else
  if b < 0 then ((0, 0), 4) else
  if heavyB (tasksOf l) = true then ((2, 0), 0) else (testFrom (tasksOf l) b.toNat (busyOf (tasksOf l)) 1 0, 0)

theorem ret_test {l : List UInt8} {B : Int} {a b c : Int} (h : testAns l B = ((a, b), c)) : Ending.returned (.tuple #[.int .i64 a, .int .i64 b, .int .i64 c]) = .returned (.tuple #[.int .i64 (testAns l B).1.1, .int .i64 (testAns l B).1.2, .int .i64 (testAns l B).2]) := by rw [h]

set_option maxRecDepth 100000 in
set_option maxHeartbeats 1600000 in
theorem ref_Test (s : ByteArray) (B : Int) (w : World) (hs : s.size ≤ maxLen) (hB : B ≤ 9223372036854775807) :
    Calls Try.prog 65 #[.string s, .int .i64 B] w fun e w' => e = .returned (.tuple #[.int .i64 (testAns s.data.toList B).1.1, .int .i64 (testAns s.data.toList B).1.2, .int .i64 (testAns s.data.toList B).2]) ∧ Below w.heap.size w w' := by
  by_cases h1 : (checkOf s.data.toList).1 = 0
  · have hn8 := (set_facts _ h1).2.1
    have hx := set_bounds _ h1
    have HC := fun w => ref_check_ok s w hs h1
    have HK := fun w => ref_tasks_ok s w h1
    have hbu := busyOf_le (tasksOf s.data.toList)
    by_cases h2 : B < 0
    · have HD : Hid (testAns s.data.toList B = ((0, 0), 4)) := by unfold Hid testAns; rw [if_neg (by simp [h1]), if_pos h2]
      clear h1
      go_enter Try.func65, Try.ntmps65
      go_wp2_with fail
      refine (HC _).mono ?_
      rintro e w1 ⟨rfl, hb1⟩
      go_wp2
      go_ret3
      exact ⟨ret_test HD.out, hb1⟩
    · obtain ⟨m, rfl⟩ := Int.eq_ofNat_of_zero_le (show 0 ≤ B by omega)
      cases hh : heavyB (tasksOf s.data.toList)
      · have HD : Hid (testAns s.data.toList (m : Int) = (testFrom (tasksOf s.data.toList) m (busyOf (tasksOf s.data.toList)) 1 0, 0)) := by unfold Hid testAns; rw [if_neg (by simp [h1]), if_neg h2, if_neg (by simp [hh])]; rfl
        generalize tasksOf s.data.toList = L at *
        have HHv : Hid (∀ (ao : Option Addr) (n cap : Nat) (w : World), n = L.length → HoldsA w ao L → Calls Try.prog 76 #[.slice ao n cap] w fun e w' => e = .returned (.bool false) ∧ ∃ q, w' = w.drewN q) := by
          intro ao n cap w hn hH; have := ref_heavy ao n cap L w hn hn8 hx hH; rw [hh] at this; exact this
        have HBu : Hid (∀ (ao : Option Addr) (n cap : Nat) (w : World), n = L.length → HoldsA w ao L → Calls Try.prog 77 #[.slice ao n cap] w fun e w' => e = .returned (.int .i64 (busyOf L)) ∧ ∃ q, w' = w.drewN q) := by
          intro ao n cap w hn hH; exact ref_busy ao n cap L w hn hn8 hx hH
        generalize busyOf L = Bu at *
        clear h1 hh h2
        go_enter Try.func65, Try.ntmps65
        go_wp2_with fail
        refine (HC _).mono ?_
        rintro e w1 ⟨rfl, hb1⟩
        go_wp2_with fail
        refine (HK _).mono ?_
        rintro e w2 ⟨ao, cap, rfl, hH, hb2⟩
        obtain ⟨n, hn⟩ : ∃ n, n = L.length := ⟨_, rfl⟩
        rw [← hn]
        have HN : Hid (n = L.length) := hn
        clear hn
        go_wp2_with fail
        refine (HHv.out ao n cap _ HN.out hH).mono ?_
        rintro e w3 ⟨rfl, q, rfl⟩
        go_wp2_with fail
        refine (HBu.out ao n cap (w2.drewN q) HN.out hH).mono ?_
        rintro e w4 ⟨rfl, q', rfl⟩
        go_wp2_with fail
        have hbel : Below w.heap.size w w2 := hb1.trans (hb2.mono hb1.size)
        have HP : Hid (∀ (t q : Nat), t ≤ 2520 → Calls Try.prog 78 #[.slice ao n cap, .int .i64 t] (w2.drewN q) fun e w' => e = .returned (.bool (pointB L t)) ∧ ∃ q', w' = (w2.drewN q).drewN q') :=
          fun t q ht => ref_point ao n cap L t (w2.drewN q) HN.out hn8 hx (by omega) hH
        have HW : Hid (∀ (t q : Nat), t ≤ 2520 → Calls Try.prog 18 #[.slice ao n cap, .int .i64 t] (w2.drewN q) fun e w' => e = .returned (.int .i64 (wanted L t)) ∧ ∃ q', w' = (w2.drewN q).drewN q') :=
          fun t q ht => ref_wanted ao n cap L t (w2.drewN q) HN.out hn8 hx (by omega) hH
        have HWB : Hid (∀ t, t ≤ 2520 → wanted L t ≤ 181512) := by
          intro t ht
          have h1 := wanted_le L t (fun x hx' => (hx x hx').1)
          have h2 : L.length * (9 * (t + 1)) ≤ 8 * (9 * 2521) := Nat.mul_le_mul hn8 (by omega)
          omega
        clear HHv HBu HC HK hH hx hn8 hb1 hb2
        go_loopw [12, 13, 14, 15] (fun sn i _ _ wr => ∃ k z q : Nat, 1 ≤ k ∧ k ≤ Bu + 1 ∧ z < k ∧ i = .int .i64 k ∧ sn = .int .i64 z ∧ testFrom L m Bu 1 0 = testFrom L m (Bu + 1 - k) k z ∧ wr = w2.drewN q) (fun _ i _ _ _ => 2521 - (intOf i).toNat)
        case atStart => exact ⟨1, 0, _, by omega, by omega, by omega, rfl, rfl, rfl, rfl⟩
        case round =>
          obtain ⟨k, z, q2, hk1, hk, hz, rfl, rfl, hall, rfl⟩ := hrel
          have HA : Hid (testFrom L m Bu 1 0 = testFrom L m (Bu + 1 - k) k z) := hall
          clear hall
          by_cases hlt : k ≤ Bu
          · have eF : Bu + 1 - k = (Bu + 1 - (k + 1)) + 1 := by omega
            rw [eF] at HA
            have HPk := HP.out k q2 (by omega)
            have HWk := fun q => HW.out k q (by omega)
            have hwl := HWB.out k (by omega)
            obtain ⟨W, hW⟩ : ∃ W, W = wanted L k := ⟨_, rfl⟩
            rw [← hW] at HWk hwl
            have HE : Hid (W = wanted L k) := hW
            clear hW eF
            cases hp : pointB L k
            · rw [hp] at HPk
              have HP1 : Hid (pointB L k = false) := hp
              clear hp
              go_wp2_with (go_at_call 78; refine HPk.mono ?_; rintro e w1 ⟨rfl, q1, rfl⟩)
              go_roundw
              case rel => exact ⟨k + 1, z, _, by omega, by omega, by omega, by go_num, rfl, by rw [HA.out]; exact testFrom_nopoint L m _ k z HP1.out, rfl⟩
              case measure => simp [intOf]; omega
            · rw [hp] at HPk
              have HP1 : Hid (pointB L k = true) := hp
              clear hp
              by_cases hzm : z = m
              · have hzd : ((z : Int) == (m : Int)) = true := by simp; omega
                have HZ : Hid (z = m) := hzm
                clear hzm
                go_wp2_with (go_at_call 78; refine HPk.mono ?_; rintro e w1 ⟨rfl, q1, rfl⟩)
                go_ret3
                exact ⟨ret_test (by rw [HD.out, HA.out, testFrom_stop L m _ k z HP1.out HZ.out]), belN hbel _⟩
              · have hzd : ((z : Int) == (m : Int)) = false := by simp; omega
                have HZ : Hid (¬ z = m) := hzm
                clear hzm
                by_cases hbad : k < W
                · go_wp2_with (first | (go_at_call 78; refine HPk.mono ?_; rintro e w1 ⟨rfl, q1, rfl⟩) | (go_at_call 18; refine (HWk _).mono ?_; rintro e w1 ⟨rfl, q3, rfl⟩))
                  go_ret3
                  exact ⟨ret_test (by rw [HD.out, HA.out, testFrom_bad L m _ k z HP1.out HZ.out (by rw [← HE.out]; exact hbad)]), belN hbel _⟩
                · go_wp2_with (first | (go_at_call 78; refine HPk.mono ?_; rintro e w1 ⟨rfl, q1, rfl⟩) | (go_at_call 18; refine (HWk _).mono ?_; rintro e w1 ⟨rfl, q3, rfl⟩))
                  go_roundw
                  case rel => exact ⟨k + 1, z + 1, _, by omega, by omega, by omega, by go_num, by go_num, by rw [HA.out]; exact testFrom_go L m _ k z HP1.out HZ.out (by rw [← HE.out]; exact hbad), rfl⟩
                  case measure => simp [intOf]; omega
          · go_wp2
            go_ret3
            have e : Bu + 1 - k = 0 := by omega
            exact ⟨ret_test (by rw [HD.out, HA.out, e]; rfl), belN hbel _⟩
      · have HD : Hid (testAns s.data.toList (m : Int) = ((2, 0), 0)) := by unfold Hid testAns; rw [if_neg (by simp [h1]), if_neg h2, if_pos hh]
        generalize tasksOf s.data.toList = L at *
        have HHv : Hid (∀ (ao : Option Addr) (n cap : Nat) (w : World), n = L.length → HoldsA w ao L → Calls Try.prog 76 #[.slice ao n cap] w fun e w' => e = .returned (.bool true) ∧ ∃ q, w' = w.drewN q) := by
          intro ao n cap w hn hH; have := ref_heavy ao n cap L w hn hn8 hx hH; rw [hh] at this; exact this
        clear h1 hh h2
        go_enter Try.func65, Try.ntmps65
        go_wp2_with fail
        refine (HC _).mono ?_
        rintro e w1 ⟨rfl, hb1⟩
        go_wp2_with fail
        refine (HK _).mono ?_
        rintro e w2 ⟨ao, cap, rfl, hH, hb2⟩
        obtain ⟨n, hn⟩ : ∃ n, n = L.length := ⟨_, rfl⟩
        rw [← hn]
        have HN : Hid (n = L.length) := hn
        clear hn
        go_wp2_with fail
        refine (HHv.out ao n cap _ HN.out hH).mono ?_
        rintro e w3 ⟨rfl, q, rfl⟩
        go_wp2
        go_ret3
        exact ⟨ret_test HD.out, belN (hb1.trans (hb2.mono hb1.size)) _⟩
  · have HD : Hid (testAns s.data.toList B = ((0, 0), (checkOf s.data.toList).1)) := by unfold Hid testAns; rw [if_pos h1]
    have HC := fun w => ref_check s w hs
    have hck := checkOf_bound s.data.toList
    generalize (checkOf s.data.toList).2 = c2 at *
    generalize (checkOf s.data.toList).1 = c1 at *
    have hne : (c1 != 0) = true := by simpa using h1
    go_enter Try.func65, Try.ntmps65
    go_wp2_with fail
    refine (HC _).mono ?_
    rintro e w1 ⟨rfl, hb1⟩
    go_wp2
    go_ret3
    exact ⟨ret_test HD.out, hb1⟩
end Go.Proofs.Ytdhofmnidlhjpab
