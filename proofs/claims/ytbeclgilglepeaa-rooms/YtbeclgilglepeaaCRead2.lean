import Derived.Test.YtbeclgilglepeaaCRead
namespace Go.Proofs.Ytbeclgilglepeaa
open Go.RowKit

theorem holds_of_owns' {w : World} {base e : Nat} {ao : Option Addr} {cap : Nat} {l : List Tk} (h : w.ownsRow base e 3 (.slice ao l.length cap) l.length (rowOf l)) : HoldsA w ao l := by
  obtain ⟨ao', cap', hv, hH⟩ := holds_of_owns h
  cases hv
  exact hH

theorem ownsN {w : World} {base e size n : Nat} {v : Value} {xs : List Value} (h : w.ownsRow base e size v n xs) (q : Nat) : (w.drewN q).ownsRow base e size v n xs := h

set_option maxRecDepth 100000 in
set_option maxHeartbeats 1600000 in
theorem read_task (s : ByteArray) (w : World) (h1 : ¬ 31 < s.size) (h2 : ¬ 0 ≤ placeOf s.data.toList) (i : Nat) (h3 : badTask (tasksOf s.data.toList) 0 = some i) : readNo s w := by
  unfold readNo
  have hf := placeOf_neg _ h2
  have hp1 : placeOf s.data.toList = -1 := by have := placeOf_lo s.data.toList; omega
  have HC : Hid (checkOf s.data.toList = (3, (i : Int))) := checkOf_task _ (by simpa using h1) h2 i h3
  have hi := badTask_lt _ _ _ h3
  have hct := first_wrong_place s
  rw [hp1] at hct
  have HT : Hid (∀ (w : World), s.size ≤ 31 → Calls Try.prog 51 #[.string s] w fun e w' => e = .returned (.int .i64 (-1)) ∧ w' = w) := hct
  have htl := tasksOf_length s.data.toList
  have HK := split_tasks s
  generalize tasksOf s.data.toList = L at *
  have hn8 : L.length ≤ 8 := by simp at htl; omega
  have hi8 : i < 8 := by omega
  have HW : Hid (∀ (ao : Option Addr) (n cap : Nat) (w : World), n = L.length → HoldsA w ao L → Calls Try.prog 53 #[.slice ao n cap] w fun e w' => e = .returned (.int .i64 i) ∧ ∃ q, w' = w.drewN q) := by
    intro ao n cap w hn hH
    have := first_wrong_task ao n cap L w hn hn8 hH
    rw [h3] at this
    exact this
  clear h2 hp1 hct htl hi h3
  go_enter Try.func29, Try.ntmps29
  go_wp2_with (first | (go_at_call 51; refine (HT.out _ (by omega)).mono ?_; rintro e w' ⟨rfl, rfl⟩) | fail)
  go_wp2_with fail
  refine (HK _ (by omega) hf).mono ?_
  rintro e w1 ⟨v, rfl, hown, hbel⟩
  obtain ⟨ao, cap, rfl, hH⟩ := holds_of_owns hown
  obtain ⟨n, hn⟩ : ∃ n, n = L.length := ⟨_, rfl⟩
  rw [← hn]
  have HN : Hid (n = L.length) := hn
  clear hown hn8 hn
  obtain ⟨hc, hfz⟩ := bcell hbel
  have hz : w.heap.size + 1 ≤ w1.heap.size := by have := hbel.size; simp at this; omega
  go_wp2_with (go_at_call 53; refine (HW.out _ _ _ _ HN.out hH).mono ?_; rintro e w2 ⟨rfl, q, rfl⟩)
  refine bodyPost_ret (v := .agg #[.slice none 0 0, .int .i64 3, .int .i64 i]) (by simp [results, Try.results29, go_sem, hc]) rfl ⟨ret_rd HC.out, ?_⟩
  exact (((belN (((Below.refl _ _).alloc (Nat.le_refl _) _).trans (hbel.mono (by simp))) q).setCell (Nat.le_refl _) _).setCell (Nat.le_refl _) _).setCell (Nat.le_refl _) _

set_option maxRecDepth 100000 in
set_option maxHeartbeats 1600000 in
theorem read_ok (s : ByteArray) (w : World) (h0 : (checkOf s.data.toList).1 = 0) :
    Calls Try.prog 29 #[.string s] w fun e w' => ∃ ao cap, e = .returned (.agg #[.slice ao (tasksOf s.data.toList).length cap, .int .i64 0, .int .i64 0]) ∧ HoldsA w' ao (tasksOf s.data.toList) ∧ Below w.heap.size w w' := by
  obtain ⟨h1, hf, h3, hc0⟩ := checkOf_zero _ h0
  have h31 : s.size ≤ 31 := by simpa using h1
  have hp1 : placeOf s.data.toList = -1 := by unfold placeOf; rw [hf.1]; simp only [hf.2]; rfl
  have hct := first_wrong_place s
  rw [hp1] at hct
  have HT : Hid (∀ (w : World), s.size ≤ 31 → Calls Try.prog 51 #[.string s] w fun e w' => e = .returned (.int .i64 (-1)) ∧ w' = w) := hct
  have htl := tasksOf_length s.data.toList
  have HK := split_tasks s
  generalize tasksOf s.data.toList = L at *
  have hn8 : L.length ≤ 8 := by simp at htl; omega
  have HW : Hid (∀ (ao : Option Addr) (n cap : Nat) (w : World), n = L.length → HoldsA w ao L → Calls Try.prog 53 #[.slice ao n cap] w fun e w' => e = .returned (.int .i64 (-1)) ∧ ∃ q, w' = w.drewN q) := by
    intro ao n cap w hn hH
    have := first_wrong_task ao n cap L w hn hn8 hH
    rw [h3] at this
    exact this
  clear h0 hp1 hct htl h3 hc0 h1
  go_enter Try.func29, Try.ntmps29
  go_wp2_with (first | (go_at_call 51; refine (HT.out _ (by omega)).mono ?_; rintro e w' ⟨rfl, rfl⟩) | fail)
  go_wp2_with fail
  refine (HK _ (by omega) hf).mono ?_
  rintro e w1 ⟨v, rfl, hown, hbel⟩
  obtain ⟨ao, cap, rfl, hH⟩ := holds_of_owns hown
  obtain ⟨n, hn⟩ : ∃ n, n = L.length := ⟨_, rfl⟩
  rw [← hn]
  have HN : Hid (n = L.length) := hn
  clear hn8 hn
  obtain ⟨hc, hfz⟩ := bcell hbel
  have hz : w.heap.size + 1 ≤ w1.heap.size := by have := hbel.size; simp at this; omega
  go_wp2_with (go_at_call 53; refine (HW.out _ _ _ _ HN.out hH).mono ?_; rintro e w2 ⟨rfl, q, rfl⟩)
  refine bodyPost_ret (v := .agg #[.slice ao n cap, .int .i64 0, .int .i64 0]) (by simp [results, Try.results29, go_sem, hc]) rfl ⟨ao, cap, by rw [HN.out], ?_, ?_⟩
  · exact holds_of_owns' (ownsRow_setCell_below (ownsRow_setCell_below (ownsRow_setCell_below (ownsN hown q) (by simp) _) (by simp) _) (by simp) _)
  · exact (((belN (((Below.refl _ _).alloc (Nat.le_refl _) _).trans (hbel.mono (by simp))) q).setCell (Nat.le_refl _) _).setCell (Nat.le_refl _) _).setCell (Nat.le_refl _) _
end Go.Proofs.Ytbeclgilglepeaa
