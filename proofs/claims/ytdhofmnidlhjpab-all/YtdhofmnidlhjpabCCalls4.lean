import Derived.Test.YtdhofmnidlhjpabCCalls2
import Derived.Test.YtdhofmnidlhjpabCRoom
namespace Go.Proofs.Ytdhofmnidlhjpab
open Go.RowKit

set_option maxRecDepth 100000 in
set_option maxHeartbeats 1600000 in
theorem room_calls (s : ByteArray) (task : Int) (w : World) (hs : s.size ≤ maxLen) (ht0 : -9223372036854775808 ≤ task) (ht1 : task ≤ 9223372036854775807) :
    Calls Try.prog 25 #[.string s, .int .i64 task] w fun e w' => e = .returned (.tuple #[.int .i64 (roomAns s.data.toList task).1, .int .i64 (roomAns s.data.toList task).2]) ∧ Below w.heap.size w w' := by
  by_cases h1 : (checkOf s.data.toList).1 = 0
  · have hn8 := (set_facts _ h1).2.1
    have hx := set_bounds _ h1
    have hx1 : ∀ x ∈ tasksOf s.data.toList, 1 ≤ x.c ∧ x.c ≤ 9 ∧ x.d ≤ 9 ∧ 1 ≤ x.t ∧ x.t ≤ 9 := fun x h => by have := (set_facts _ h1).2.2.2.2 x h; simp only [fine] at this; omega
    have HR := fun w => read_ok s w h1
    by_cases h2 : task < 0 ∨ ((tasksOf s.data.toList).length : Int) ≤ task
    · have HD : Hid (roomAns s.data.toList task = (0, 4)) := by unfold Hid roomAns; rw [if_neg (by simp [h1]), if_pos h2]
      generalize tasksOf s.data.toList = L at *
      clear h1
      obtain ⟨n, hn⟩ : ∃ n, n = L.length := ⟨_, rfl⟩
      rw [← hn] at h2 HR
      have hn8' : n ≤ 8 := by omega
      clear hn
      by_cases h3 : task < 0
      · clear h2
        go_enter Try.func25, Try.ntmps25
        go_wp2_with fail
        refine (HR _).mono ?_
        rintro e w1 ⟨ao, cap, rfl, hH, hb1⟩
        go_wp2
        go_ret2
        exact ⟨ret_pair HD.out, hb1.alloc hb1.size _⟩
      · have h2' : (n : Int) ≤ task := by omega
        clear h2
        go_enter Try.func25, Try.ntmps25
        go_wp2_with fail
        refine (HR _).mono ?_
        rintro e w1 ⟨ao, cap, rfl, hH, hb1⟩
        go_wp2
        go_ret2
        exact ⟨ret_pair HD.out, hb1.alloc hb1.size _⟩
    · obtain ⟨m, rfl⟩ := Int.eq_ofNat_of_zero_le (show 0 ≤ task by omega)
      have hm : m < (tasksOf s.data.toList).length := by omega
      have HF : Hid (∀ (ao : Option Addr) (n cap : Nat) (wx : World), n = (withC (tasksOf s.data.toList) m 0).length → HoldsA wx ao (withC (tasksOf s.data.toList) m 0) → Calls Try.prog 13 #[.slice ao n cap] wx fun e w' => e = .returned (.int .i64 (tooOf (withC (tasksOf s.data.toList) m 0))) ∧ Below wx.heap.size wx w') := fun ao n cap wx hn hH =>
        first_late ao n cap _ wx hn (with_bounds _ m 0 hn8 hx (by omega)).1 (with_bounds _ m 0 hn8 hx (by omega)).2 hH
      cases hh : feasB (withC (tasksOf s.data.toList) m 0)
      · have HD : Hid (roomAns s.data.toList (m : Int) = (0, 6)) := by unfold Hid roomAns; rw [if_neg (by simp [h1]), if_neg h2, Int.toNat_natCast, if_pos hh]
        obtain ⟨q1, q2, _⟩ := late_not _ hh
        generalize tasksOf s.data.toList = L at *
        have HWi : Hid (∀ (ao : Option Addr) (n cap : Nat) (w : World), n = L.length → HoldsA w ao L → Calls Try.prog 42 #[.slice ao n cap, .int .i64 m] w fun e w' => ∃ ao' n' cap', e = .returned (.slice ao' n' cap') ∧ n' = (withC L m 0).length ∧ HoldsA w' ao' (withC L m 0) ∧ Below w.heap.size w w') := by
          intro ao n cap w hn hH
          refine (code_without ao n cap L m w hn hn8 hx1 hH).mono ?_
          rintro e w' ⟨v, rfl, hown, hb'⟩
          obtain ⟨ao', cap', rfl, hH'⟩ := holds_of_owns hown
          exact ⟨ao', _, cap', rfl, rfl, hH', hb'⟩
        generalize withC L m 0 = Z at *
        generalize tooOf Z = q at *
        clear h1 h2 hh ht0 ht1 hx hx1
        go_enter Try.func25, Try.ntmps25
        go_wp2_with fail
        refine (HR _).mono ?_
        rintro e w1 ⟨ao, cap, rfl, hH, hb1⟩
        obtain ⟨n, hn⟩ : ∃ n, n = L.length := ⟨_, rfl⟩
        rw [← hn]
        have HN : Hid (n = L.length) := hn
        clear hn
        have hmn : (m : Int) < (n : Int) := by have := HN.out; omega
        have hn9 : n ≤ 8 := by have := HN.out; omega
        clear hm
        go_wp2_with fail
        refine (HWi.out ao n cap _ HN.out (held_alloc hH _)).mono ?_
        rintro e w2 ⟨ao2, n2, cap2, rfl, hn2, hH2, hb2⟩
        have hbw := bel_alloc hb1 hb2
        have HF2 := HF.out ao2 n2 cap2 w2 hn2 hH2
        clear hH2 hn2
        go_wp2_with fail
        refine HF2.mono ?_
        rintro e w3 ⟨rfl, hb3⟩
        go_wp2
        go_ret2
        exact ⟨ret_pair HD.out, bel_next hbw hb3⟩
      · have HD : Hid (roomAns s.data.toList (m : Int) = (((roomFrom (tasksOf s.data.toList) m ((tasksOf s.data.toList).getD m ⟨0, 0, 0⟩).d : Nat) : Int), 0)) := by unfold Hid roomAns; rw [if_neg (by simp [h1]), if_neg h2, Int.toNat_natCast, if_neg (by simp [hh])]
        generalize tasksOf s.data.toList = L at *
        have HWi : Hid (∀ (ao : Option Addr) (n cap : Nat) (w : World), n = L.length → HoldsA w ao L → Calls Try.prog 42 #[.slice ao n cap, .int .i64 m] w fun e w' => ∃ ao' n' cap', e = .returned (.slice ao' n' cap') ∧ n' = (withC L m 0).length ∧ HoldsA w' ao' (withC L m 0) ∧ Below w.heap.size w w') := by
          intro ao n cap w hn hH
          refine (code_without ao n cap L m w hn hn8 hx1 hH).mono ?_
          rintro e w' ⟨v, rfl, hown, hb'⟩
          obtain ⟨ao', cap', rfl, hH'⟩ := holds_of_owns hown
          exact ⟨ao', _, cap', rfl, rfl, hH', hb'⟩
        have hgd : L.getD m ⟨0, 0, 0⟩ = L[m] := by rw [List.getD_eq_getElem?_getD, List.getElem?_eq_getElem hm]; rfl
        rw [hgd] at HD
        have hxm := (hx _ (List.getElem_mem hm)).2.1
        have hl0 := late_feas _ hh
        generalize withC L m 0 = Z at *
        rw [hl0] at HF
        have HMo : Hid (∀ (ao : Option Addr) (n cap : Nat) (w : World), n = L.length → HoldsA w ao L → Calls Try.prog 43 #[.slice ao n cap, .int .i64 m, .int .i64 L[m].d] w fun e w' => e = .returned (.int .i64 (roomFrom L m L[m].d)) ∧ Below w.heap.size w w') := by
          intro ao n cap w hn hH; exact most_work ao n cap L m L[m].d w hn hn8 hx1 hxm hH
        have hrl := roomFrom_le L m L[m].d
        generalize roomFrom L m L[m].d = R at *
        clear h1 h2 hh ht0 ht1 hx hx1 hgd hl0
        go_enter Try.func25, Try.ntmps25
        go_wp2_with fail
        refine (HR _).mono ?_
        rintro e w1 ⟨ao, cap, rfl, hH, hb1⟩
        obtain ⟨n, hn⟩ : ∃ n, n = L.length := ⟨_, rfl⟩
        rw [← hn]
        have HN : Hid (n = L.length) := hn
        clear hn
        have hmn : (m : Int) < (n : Int) := by have := HN.out; omega
        have hn9 : n ≤ 8 := by have := HN.out; omega
        go_wp2_with fail
        refine (HWi.out ao n cap _ HN.out (held_alloc hH _)).mono ?_
        rintro e w2 ⟨ao2, n2, cap2, rfl, hn2, hH2, hb2⟩
        have hbw := bel_alloc hb1 hb2
        have hHL := (held_alloc hH _).later hb2
        obtain ⟨hc, hfz⟩ := bcell hb2
        have hz : w1.heap.size + 1 ≤ w2.heap.size := by have := hb2.size; simp at this; omega
        have HF2 := HF.out ao2 n2 cap2 w2 hn2 hH2
        clear hH2 hn2
        go_wp2_with fail
        refine HF2.mono ?_
        rintro e w3 ⟨rfl, hb3⟩
        have hH3 := hHL.later hb3
        have hbw3 := bel_next hbw hb3
        obtain ⟨hc3, hfz3⟩ := bcell (bel_next hb2 hb3)
        have hz3 : w1.heap.size + 1 ≤ w3.heap.size := Nat.le_trans hz hb3.size
        clear hc hfz
        obtain ⟨b, rfl, hbl, c0, c1, c2⟩ := hH3 m hm
        have HM2 := HMo.out (some ⟨b, 0, none⟩) n cap w3.drew HN.out (hH3.later (Below.refl _ _).drew)
        generalize L[m].d = D at *
        have hr0 : w3.cell? ⟨w1.heap.size, 0, none⟩ = some (.slice (some ⟨b, 0, none⟩) n cap) := by rw [hc3 w1.heap.size 0 (by simp)]; simp
        have HM3 : Hid (Calls Try.prog 43 #[.slice (some ⟨b, 0, none⟩) n cap, .int .i64 m, .int .i64 D] w3.drew fun e w' => e = .returned (.int .i64 R) ∧ Below w3.drew.heap.size w3.drew w') := HM2
        clear hH3 hHL hH c0 c2 HMo HWi HF HF2 hm HM2
        go_wp2_with fail
        go_region_held3 (fun w' => w'.cell? ⟨b, m * 3 + 1, none⟩ = some (.int .i64 D) ∧ w'.cell? ⟨w1.heap.size, 0, none⟩ = some (.slice (some ⟨b, 0, none⟩) n cap))
          (first | go_keep | (go_split_ands; refine ⟨?_, ?_⟩ <;> (rw [hb4.cell (by simp; omega)]; simpa using ‹_›)))
          ((go_at_call 43; refine HM3.out.mono ?_; rintro e w4 ⟨rfl, hb4⟩))
        go_wp2
        go_ret2
        exact ⟨ret_pair HD.out, bel_next hbw3.drew hb4⟩
  · have HD : Hid (roomAns s.data.toList task = (0, (checkOf s.data.toList).1)) := by unfold Hid roomAns; rw [if_pos h1]
    have HR := fun w => read_no s w hs h1
    unfold readNo at HR
    generalize (checkOf s.data.toList).2 = c2 at *
    generalize (checkOf s.data.toList).1 = c1 at *
    have hne : (c1 != 0) = true := by simpa using h1
    go_enter Try.func25, Try.ntmps25
    go_wp2_with fail
    refine (HR _).mono ?_
    rintro e w1 ⟨rfl, hb1⟩
    go_wp2
    go_quiet (fail)
    go_wp2
    go_ret2
    exact ⟨ret_pair HD.out, belN (hb1.alloc hb1.size _) _⟩

theorem code_room : CodeRoom := fun s k w hs hk => room_calls s k w hs hk.1 hk.2
end Go.Proofs.Ytdhofmnidlhjpab
