import Derived.Test.YtdhofmnidlhjpabRHold
namespace Go.Proofs.Ytdhofmnidlhjpab
open Go.RowKit

set_option maxRecDepth 100000 in
set_option maxHeartbeats 1600000 in
theorem ref_wanted (ao : Option Addr) (n cap : Nat) (l : List Tk) (t : Nat) (w : World) (hn : n = l.length) (hl : l.length ≤ 8) (hx : ∀ x ∈ l, x.c ≤ 9 ∧ x.d ≤ 9 ∧ 1 ≤ x.t ∧ x.t ≤ 9) (ht : t ≤ 10000) (hH : HoldsA w ao l) :
    Calls Try.prog 18 #[.slice ao n cap, .int .i64 t] w fun e w' => e = .returned (.int .i64 (wanted l t)) ∧ ∃ q, w' = w.drewN q := by
  have HN : Hid (n = l.length) := hn
  have hn8 : n ≤ 8 := by omega
  clear hn hl
  go_enter Try.func18, Try.ntmps18
  go_wp2
  go_loopw [5, 6] (fun s i wr => ∃ k q : Nat, k ≤ n ∧ i = .int .i64 k ∧ s = .int .i64 (wanted (l.take k) t : Nat) ∧ wr = w.drewN q) (fun _ i _ => n - (intOf i).toNat)
  case atStart => exact ⟨0, 0, Nat.zero_le _, rfl, by simp [wanted], rfl⟩
  case round =>
    obtain ⟨k, q, hk, rfl, rfl, rfl⟩ := hrel
    by_cases hlt : k < n
    · have hkl : k < l.length := by rw [← HN.out]; exact hlt
      obtain ⟨b, rfl, hb, h0, h1, h2⟩ := hH k hkl
      have hb2 := wanted_le (l.take k) t (fun x hx' => (hx x (List.mem_of_mem_take hx')).1)
      have hb3 : (l.take k).length * (9 * (t + 1)) ≤ 8 * (9 * 10001) := Nat.mul_le_mul (by rw [List.length_take]; omega) (by omega)
      have hsn := wanted_snoc l k hkl t
      obtain ⟨fc, fd, ft1, ft2⟩ := hx _ (List.getElem_mem hkl)
      generalize l[k] = x at *
      obtain ⟨c, d, T⟩ := x
      generalize hS : wanted (l.take k) t = S at *
      generalize hS' : wanted (l.take (k + 1)) t = S' at *
      have HS : Hid (wanted (l.take (k + 1)) t = S') := hS'
      have HX : Hid (S' = S + wantedOne ⟨c, d, T⟩ t) := hsn
      dsimp only at *
      clear hS hsn hS' hH hx
      have g0 : (0 : Int) ≤ (k : Int) := by omega
      have g1 : (k : Int) < (n : Int) := by omega
      by_cases hd : d ≤ t
      · obtain ⟨p1, p2, p3, p4, p5⟩ := part_facts c d T t fc ht hd
        have P5 : Hid ((c : Int) * (((t : Int) - d) / T + 1) = ((c * ((t - d) / T + 1) : Nat) : Int)) := p5
        clear p5
        go_wp2_with fail
        go_quiet (fail)
        go_wp2
        go_roundw
        case rel => exact ⟨k + 1, _, by omega, by go_num, by rw [HS.out, HX.out, wantedOne, if_pos hd]; rw [P5.out]; go_num, rfl⟩
        case measure => simp [intOf]; omega
      · go_wp2
        go_roundw
        case rel => exact ⟨k + 1, q, by omega, by go_num, by rw [HS.out, HX.out, wantedOne, if_neg hd]; go_num, rfl⟩
        case measure => simp [intOf]; omega
    · go_wp2
      go_ret
      exact ⟨ret_int (by rw [List.take_of_length_le (by rw [← HN.out]; omega)]), q, rfl⟩
end Go.Proofs.Ytdhofmnidlhjpab
