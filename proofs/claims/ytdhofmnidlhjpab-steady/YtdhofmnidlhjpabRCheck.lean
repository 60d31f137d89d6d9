import Derived.Test.YtdhofmnidlhjpabRWanted
namespace Go.Proofs.Ytdhofmnidlhjpab
open Go.RowKit

theorem belN {B : Nat} {a w : World} (h : Below B a w) (n : Nat) : Below B a (w.drewN n) := ⟨h.os, h.tape, h.output, h.size, h.block⟩

theorem ret_2 {k m : IntKind} {a b c d : Int} (h : a = c) (h' : b = d) : Ending.returned (.tuple #[.int k a, .int m b]) = .returned (.tuple #[.int k c, .int m d]) := by rw [h, h']
theorem ret_chk {l : List UInt8} {a b : Int} (h : checkOf l = (a, b)) : Ending.returned (.tuple #[.int .i64 a, .int .i64 b]) = .returned (.tuple #[.int .i64 (checkOf l).1, .int .i64 (checkOf l).2]) := by rw [h]

set_option maxRecDepth 100000 in
set_option maxHeartbeats 1600000 in
theorem ref_check (s : ByteArray) (w : World) (hs : s.size ≤ maxLen) :
    Calls Try.prog 15 #[.string s] w fun e w' => e = .returned (.tuple #[.int .i64 (checkOf s.data.toList).1, .int .i64 (checkOf s.data.toList).2]) ∧ Below w.heap.size w w' := by
  unfold maxLen at hs
  by_cases h1 : 31 < s.size
  · have hc := checkOf_long s.data.toList (by simpa using h1)
    have HC : Hid (checkOf s.data.toList = (1, 0)) := hc
    clear hc
    go_enter Try.func15, Try.ntmps15
    go_wp2
    go_ret2
    exact ⟨ret_chk HC.out, Below.refl _ _⟩
  · by_cases h2 : 0 ≤ placeOf s.data.toList
    · have hc := checkOf_place s.data.toList (by simpa using h1) h2
      have hpl := placeOf_lo s.data.toList
      have hct := ref_place s
      generalize placeOf s.data.toList = p at *
      have HC : Hid (checkOf s.data.toList = (2, p)) := hc
      have HT : Hid (∀ (w : World), s.size ≤ 31 → Calls Try.prog 35 #[.string s] w fun e w' => e = .returned (.int .i64 p) ∧ w' = w) := hct
      have hpl2 : p ≤ 31 := by simp at hpl; omega
      clear hc hpl hct
      go_enter Try.func15, Try.ntmps15
      go_wp2_with (go_at_call 35; refine (HT.out _ (by omega)).mono ?_; rintro e w' ⟨rfl, rfl⟩)
      go_ret2
      exact ⟨ret_chk HC.out, Below.refl _ _⟩
    · have hf := placeOf_neg _ h2
      have hp1 : placeOf s.data.toList = -1 := by have := placeOf_lo s.data.toList; omega
      have HC : Hid (∀ i : Nat, badTask (tasksOf s.data.toList) 0 = some i → checkOf s.data.toList = (3, (i : Int))) := checkOf_task _ (by simpa using h1) h2
      have HO : Hid (badTask (tasksOf s.data.toList) 0 = none → checkOf s.data.toList = (0, 0)) := checkOf_ok _ (by simpa using h1) h2
      have hct := ref_place s
      rw [hp1] at hct
      have HT : Hid (∀ (w : World), s.size ≤ 31 → Calls Try.prog 35 #[.string s] w fun e w' => e = .returned (.int .i64 (-1)) ∧ w' = w) := hct
      have htl := tasksOf_length s.data.toList
      have hfi := tasksOf_fine _ hf
      have HK := ref_tasks s
      generalize tasksOf s.data.toList = L at *
      have hn8 : L.length ≤ 8 := by simp at htl; omega
      clear h2 hp1 hct htl
      go_enter Try.func15, Try.ntmps15
      go_wp2_with (first | (go_at_call 35; refine (HT.out _ (by omega)).mono ?_; rintro e w' ⟨rfl, rfl⟩) | (go_at_call 16; refine (HK _ (by omega) hf).mono ?_; rintro e w1 ⟨v, rfl, hown, hbel⟩; obtain ⟨ao, cap, rfl, hH⟩ := holds_of_owns hown))
      obtain ⟨n, hn⟩ : ∃ n, n = L.length := ⟨_, rfl⟩
      rw [← hn]
      have HN : Hid (n = L.length) := hn
      have hn8' : n ≤ 8 := by omega
      clear hown hn8 hn
      go_loopw [6] (fun i wr => ∃ k q : Nat, k ≤ n ∧ i = .int .i64 k ∧ badTask L 0 = badTask (L.drop k) k ∧ wr = w1.drewN q) (fun i _ => n - (intOf i).toNat)
      case atStart => exact ⟨0, 0, Nat.zero_le _, rfl, by simp, rfl⟩
      case round =>
        obtain ⟨k, q, hk, rfl, hb, rfl⟩ := hrel
        have HB : Hid (badTask L 0 = badTask (L.drop k) k) := hb
        clear hb
        by_cases hlt : k < n
        · have hkl : k < L.length := by rw [← HN.out]; exact hlt
          obtain ⟨b, rfl, hb, c0, c1, c2⟩ := hH k hkl
          have hff := hfi _ (List.getElem_mem hkl)
          have hdrop := badTask_drop L k hkl
          have hhit := badTask_hit L k hkl
          generalize L[k] = x at *
          obtain ⟨c, d, T⟩ := x
          have H1 : Hid (wrongTk ⟨c, d, T⟩ = false → badTask (L.drop k) k = badTask (L.drop (k + 1)) (k + 1)) := hdrop
          have H2 : Hid (wrongTk ⟨c, d, T⟩ = true → badTask (L.drop k) k = some k) := hhit
          obtain ⟨f1, f2, f3, f4, f5, f6⟩ := hff
          dsimp only at *
          clear hdrop hhit hH hfi
          have g0 : (0 : Int) ≤ (k : Int) := by omega
          have g1 : (k : Int) < (n : Int) := by omega
          by_cases hg1 : d < c
          · have hd1 : decide (d < c) = true := by simpa using hg1
            go_wp2_with fail
            go_quiet (fail)
            go_wp2
            go_ret2
            exact ⟨ret_chk (HC.out k (by rw [HB.out]; exact H2.out (by simp [wrongTk]; omega))), belN (belN hbel _) _⟩
          · have hd1 : decide (d < c) = false := by simpa using hg1
            by_cases hg2 : T < d
            · have hd2 : decide (T < d) = true := by simpa using hg2
              go_wp2_with fail
              go_quiet (fail)
              go_wp2
              go_ret2
              exact ⟨ret_chk (HC.out k (by rw [HB.out]; exact H2.out (by simp [wrongTk]; omega))), belN (belN hbel _) _⟩
            · have hd2 : decide (T < d) = false := by simpa using hg2
              go_wp2_with fail
              go_quiet (fail)
              go_wp2
              go_roundw
              case rel => exact ⟨k + 1, _, by omega, by go_num, by rw [HB.out]; exact H1.out (by simp [wrongTk]; omega), rfl⟩
              case measure => simp [intOf]; omega
        · go_wp2
          go_ret2
          exact ⟨ret_chk (HO.out (by rw [HB.out]; exact badTask_end L k (by rw [← HN.out]; omega))), belN hbel _⟩
end Go.Proofs.Ytdhofmnidlhjpab
