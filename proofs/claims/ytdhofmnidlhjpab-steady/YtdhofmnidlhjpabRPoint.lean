import Derived.Test.YtdhofmnidlhjpabRHeavy
namespace Go.Proofs.Ytdhofmnidlhjpab
open Go.RowKit

theorem mod_facts (d T t : Nat) (hd : d ≤ t) : ((t : Int) - d) % T = (((t - d) % T : Nat) : Int) := by
  rw [Int.natCast_emod, Int.ofNat_sub hd]

set_option maxRecDepth 100000 in
set_option maxHeartbeats 1600000 in
theorem ref_point (ao : Option Addr) (n cap : Nat) (l : List Tk) (t : Nat) (w : World) (hn : n = l.length) (hl : l.length ≤ 8) (hx : ∀ x ∈ l, x.c ≤ 9 ∧ x.d ≤ 9 ∧ 1 ≤ x.t ∧ x.t ≤ 9) (ht : t ≤ 10000) (hH : HoldsA w ao l) :
    Calls Try.prog 78 #[.slice ao n cap, .int .i64 t] w fun e w' => e = .returned (.bool (pointB l t)) ∧ ∃ q, w' = w.drewN q := by
  have HN : Hid (n = l.length) := hn
  have hn8 : n ≤ 8 := by omega
  clear hn hl
  go_enter Try.func78, Try.ntmps78
  go_wp2
  go_loopw [5] (fun i wr => ∃ k q : Nat, k ≤ n ∧ i = .int .i64 k ∧ pointB l t = pointB (l.drop k) t ∧ wr = w.drewN q) (fun i _ => n - (intOf i).toNat)
  case atStart => exact ⟨0, 0, Nat.zero_le _, rfl, by simp, rfl⟩
  case round =>
    obtain ⟨k, q, hk, rfl, hb, rfl⟩ := hrel
    have HB : Hid (pointB l t = pointB (l.drop k) t) := hb
    clear hb
    by_cases hlt : k < n
    · have hkl : k < l.length := by rw [← HN.out]; exact hlt
      obtain ⟨b, rfl, hb, h0, h1, h2⟩ := hH k hkl
      obtain ⟨fc, fd, ft1, ft2⟩ := hx _ (List.getElem_mem hkl)
      have hhit := pointB_hit l k hkl t
      have hmiss := pointB_miss l k hkl t
      generalize l[k] = x at *
      obtain ⟨c, d, T⟩ := x
      have H1 : Hid (pointOne ⟨c, d, T⟩ t = true → pointB (l.drop k) t = true) := hhit
      have H2 : Hid (pointOne ⟨c, d, T⟩ t = false → pointB (l.drop k) t = pointB (l.drop (k + 1)) t) := hmiss
      dsimp only at *
      clear hhit hmiss hH hx
      have g0 : (0 : Int) ≤ (k : Int) := by omega
      have g1 : (k : Int) < (n : Int) := by omega
      by_cases hd : d ≤ t
      · have hd1 : decide (d ≤ t) = true := by simpa using hd
        have hm := mod_facts d T t hd
        by_cases hz : (t - d) % T = 0
        · have hz1 : (((t : Int) - d) % T == 0) = true := by rw [hm, hz]; rfl
          have HZ : Hid ((t - d) % T = 0) := hz
          clear hm hz
          go_wp2_with fail
          go_quiet (fail)
          go_wp2
          go_ret
          exact ⟨ret_boolR (by rw [HB.out]; exact (H1.out (by simp [pointOne, hd, HZ.out])).symm), _, World.drewN_drewN _ _ _⟩
        · have hz1 : (((t : Int) - d) % T == 0) = false := by rw [hm]; simp; omega
          have HZ : Hid (¬ (t - d) % T = 0) := hz
          clear hm hz
          go_wp2_with fail
          go_quiet (fail)
          go_wp2
          go_roundw
          case rel => exact ⟨k + 1, _, by omega, by go_num, by rw [HB.out]; exact H2.out (by simp [pointOne, hd, HZ.out]), rfl⟩
          case measure => simp [intOf]; omega
      · have hd1 : decide (d ≤ t) = false := by simpa using hd
        go_wp2_with fail
        go_quiet (fail)
        go_wp2
        go_roundw
        case rel => exact ⟨k + 1, _, by omega, by go_num, by rw [HB.out]; exact H2.out (by simp [pointOne, hd]), rfl⟩
        case measure => simp [intOf]; omega
    · go_wp2
      go_ret
      exact ⟨ret_boolR (by rw [HB.out]; exact (pointB_end l k (by rw [← HN.out]; omega) t).symm), q, rfl⟩
end Go.Proofs.Ytdhofmnidlhjpab
