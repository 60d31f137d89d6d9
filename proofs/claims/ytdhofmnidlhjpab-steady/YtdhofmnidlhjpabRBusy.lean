import Derived.Test.YtdhofmnidlhjpabRHeavy
namespace Go.Proofs.Ytdhofmnidlhjpab
open Go.RowKit

theorem come_facts (c T w : Nat) (hc : c ≤ 9) (hT1 : 1 ≤ T) (hT : T ≤ 9) (hw : w ≤ 2520) :
    0 ≤ ((w : Int) + T - 1) / T ∧ ((w : Int) + T - 1) / T ≤ 2530 ∧ 0 ≤ (c : Int) * (((w : Int) + T - 1) / T) ∧ (c : Int) * (((w : Int) + T - 1) / T) ≤ 22770 ∧ (c : Int) * (((w : Int) + T - 1) / T) = ((c * ((w + T - 1) / T) : Nat) : Int) := by
  have e0 : (w : Int) + T - 1 = ((w + T - 1 : Nat) : Int) := by omega
  have e1 : ((w : Int) + T - 1) / T = (((w + T - 1) / T : Nat) : Int) := by rw [e0, Int.natCast_ediv]
  have e2 : (c : Int) * (((w + T - 1) / T : Nat) : Int) = ((c * ((w + T - 1) / T) : Nat) : Int) := by simp
  have h1 : (w + T - 1) / T ≤ w + T - 1 := Nat.div_le_self _ _
  have h2 : c * ((w + T - 1) / T) ≤ 9 * 2529 := Nat.mul_le_mul hc (by omega)
  rw [e1, e2]
  generalize (w + T - 1) / T = q at *
  refine ⟨by omega, by omega, by omega, by omega, rfl⟩

set_option maxRecDepth 100000 in
set_option maxHeartbeats 1600000 in
theorem ref_come (ao : Option Addr) (n cap : Nat) (l : List Tk) (t : Nat) (w : World) (hn : n = l.length) (hl : l.length ≤ 8) (hx : ∀ x ∈ l, x.c ≤ 9 ∧ x.d ≤ 9 ∧ 1 ≤ x.t ∧ x.t ≤ 9) (ht : t ≤ 2520) (hH : HoldsA w ao l) :
    Calls Try.prog 81 #[.slice ao n cap, .int .i64 t] w fun e w' => e = .returned (.int .i64 (come l t)) ∧ ∃ q, w' = w.drewN q := by
  have HN : Hid (n = l.length) := hn
  have hn8 : n ≤ 8 := by omega
  clear hn hl
  go_enter Try.func81, Try.ntmps81
  go_wp2
  go_loopw [5, 6] (fun s i wr => ∃ k q : Nat, k ≤ n ∧ i = .int .i64 k ∧ s = .int .i64 (come (l.take k) t : Nat) ∧ wr = w.drewN q) (fun _ i _ => n - (intOf i).toNat)
  case atStart => exact ⟨0, 0, Nat.zero_le _, rfl, by simp [come], rfl⟩
  case round =>
    obtain ⟨k, q, hk, rfl, rfl, rfl⟩ := hrel
    by_cases hlt : k < n
    · have hkl : k < l.length := by rw [← HN.out]; exact hlt
      obtain ⟨b, rfl, hb, h0, h1, h2⟩ := hH k hkl
      have hb2 := come_le (l.take k) t (fun x hx' => ⟨(hx x (List.mem_of_mem_take hx')).1, (hx x (List.mem_of_mem_take hx')).2.2.2⟩)
      have hb3 : (l.take k).length * (9 * (t + 9)) ≤ 8 * (9 * 2529) := Nat.mul_le_mul (by rw [List.length_take]; omega) (by omega)
      have hsn := come_snoc l k hkl t
      obtain ⟨fc, fd, ft1, ft2⟩ := hx _ (List.getElem_mem hkl)
      generalize l[k] = x at *
      obtain ⟨c, d, T⟩ := x
      generalize hS : come (l.take k) t = S at *
      generalize hS' : come (l.take (k + 1)) t = S' at *
      have HS : Hid (come (l.take (k + 1)) t = S') := hS'
      have HX : Hid (S' = S + comeOne ⟨c, d, T⟩ t) := hsn
      dsimp only at *
      clear hS hsn hS' hH hx
      have g0 : (0 : Int) ≤ (k : Int) := by omega
      have g1 : (k : Int) < (n : Int) := by omega
      obtain ⟨p1, p2, p3, p4, p5⟩ := come_facts c T t fc ft1 ft2 ht
      have P5 : Hid ((c : Int) * (((t : Int) + T - 1) / T) = ((c * ((t + T - 1) / T) : Nat) : Int)) := p5
      clear p5
      go_wp2_with fail
      go_quiet (fail)
      go_wp2
      go_roundw
      case rel => exact ⟨k + 1, _, by omega, by go_num, by rw [HS.out, HX.out, comeOne]; rw [P5.out]; go_num, rfl⟩
      case measure => simp [intOf]; omega
    · go_wp2
      go_ret
      exact ⟨ret_int (by rw [List.take_of_length_le (by rw [← HN.out]; omega)]), q, rfl⟩

set_option maxRecDepth 100000 in
set_option maxHeartbeats 1600000 in
theorem ref_busy (ao : Option Addr) (n cap : Nat) (l : List Tk) (w : World) (hn : n = l.length) (hl : l.length ≤ 8) (hx : ∀ x ∈ l, x.c ≤ 9 ∧ x.d ≤ 9 ∧ 1 ≤ x.t ∧ x.t ≤ 9) (hH : HoldsA w ao l) :
    Calls Try.prog 77 #[.slice ao n cap] w fun e w' => e = .returned (.int .i64 (busyOf l)) ∧ ∃ q, w' = w.drewN q := by
  have HW : Hid (∀ (t q : Nat), t ≤ 2520 → Calls Try.prog 81 #[.slice ao n cap, .int .i64 t] (w.drewN q) fun e w' => e = .returned (.int .i64 (come l t)) ∧ ∃ q', w' = (w.drewN q).drewN q') :=
    fun t q ht => ref_come ao n cap l t (w.drewN q) hn hl hx ht hH
  clear hn hl hx hH
  go_enter Try.func77, Try.ntmps77
  go_wp2
  go_loopw [3, 4] (fun i _ wr => ∃ k q : Nat, 1 ≤ k ∧ k ≤ 2520 ∧ i = .int .i64 k ∧ busyOf l = busyFrom l (2520 - k) k ∧ wr = w.drewN q) (fun i _ _ => 2521 - (intOf i).toNat)
  case atStart => exact ⟨1, 0, by omega, by omega, rfl, rfl, rfl⟩
  case round =>
    obtain ⟨k, q, hk1, hk, rfl, hall, rfl⟩ := hrel
    have HA : Hid (busyOf l = busyFrom l (2520 - k) k) := hall
    clear hall
    by_cases hlt : k < 2520
    · have HWk : Hid (Calls Try.prog 81 #[.slice ao n cap, .int .i64 k] (w.drewN q) fun e w' => e = .returned (.int .i64 (come l k)) ∧ ∃ q', w' = (w.drewN q).drewN q') := HW.out k q (by omega)
      obtain ⟨W, hW⟩ : ∃ W, W = come l k := ⟨_, rfl⟩
      rw [← hW] at HWk
      have HE : Hid (W = come l k) := hW
      clear hW
      by_cases hhit : W = k
      · have hd : ((W : Int) == (k : Int)) = true := by simp; omega
        have HH : Hid (W = k) := hhit
        clear hhit
        go_wp2_with (go_at_call 81; refine HWk.out.mono ?_; rintro e w1 ⟨rfl, q1, rfl⟩)
        go_ret
        exact ⟨ret_int (by rw [HA.out, busyFrom_hit l _ k (by rw [← HE.out, HH.out])]), _, rfl⟩
      · have hd : ((W : Int) == (k : Int)) = false := by simp; omega
        have HH : Hid (¬ W = k) := hhit
        clear hhit
        go_wp2_with (go_at_call 81; refine HWk.out.mono ?_; rintro e w1 ⟨rfl, q1, rfl⟩)
        go_roundw
        case rel =>
          refine ⟨k + 1, _, by omega, by omega, by go_num, ?_, rfl⟩
          rw [HA.out, show 2520 - k = (2520 - (k + 1)) + 1 by omega, busyFrom_miss l _ k (by rw [← HE.out]; exact HH.out)]
        case measure => simp [intOf]; omega
    · go_wp2
      go_ret
      have e : k = 2520 := by omega
      exact ⟨ret_int (by rw [HA.out, e]; rfl), q, rfl⟩
end Go.Proofs.Ytdhofmnidlhjpab
