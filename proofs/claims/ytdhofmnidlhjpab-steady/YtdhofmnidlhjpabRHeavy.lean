import Derived.Test.YtdhofmnidlhjpabRWanted
import Derived.Test.YtdhofmnidlhjpabMath
namespace Go.Proofs.Ytdhofmnidlhjpab
open Go.RowKit

theorem ret_boolR {a b : Bool} (h : a = b) : Ending.returned (.bool a) = .returned (.bool b) := by rw [h]

theorem load_facts (c T : Nat) (hc : c ≤ 9) :
    0 ≤ (2520 : Int) / T ∧ (2520 : Int) / T ≤ 2520 ∧ 0 ≤ (c : Int) * ((2520 : Int) / T) ∧ (c : Int) * ((2520 : Int) / T) ≤ 22680 ∧ (c : Int) * ((2520 : Int) / T) = ((c * (2520 / T) : Nat) : Int) := by
  have e1 : (2520 : Int) / T = ((2520 / T : Nat) : Int) := by rw [Int.natCast_ediv]; rfl
  have e2 : (c : Int) * ((2520 / T : Nat) : Int) = ((c * (2520 / T) : Nat) : Int) := by simp
  have h1 : 2520 / T ≤ 2520 := Nat.div_le_self _ _
  have h2 : c * (2520 / T) ≤ 9 * 2520 := Nat.mul_le_mul hc h1
  rw [e1, e2]
  generalize 2520 / T = q at *
  refine ⟨by omega, by omega, by omega, by omega, rfl⟩

set_option maxRecDepth 100000 in
set_option maxHeartbeats 1600000 in
theorem ref_heavy (ao : Option Addr) (n cap : Nat) (l : List Tk) (w : World) (hn : n = l.length) (hl : l.length ≤ 8) (hx : ∀ x ∈ l, x.c ≤ 9 ∧ x.d ≤ 9 ∧ 1 ≤ x.t ∧ x.t ≤ 9) (hH : HoldsA w ao l) :
    Calls Try.prog 76 #[.slice ao n cap] w fun e w' => e = .returned (.bool (heavyB l)) ∧ ∃ q, w' = w.drewN q := by
  have HN : Hid (n = l.length) := hn
  have hn8 : n ≤ 8 := by omega
  clear hn hl
  go_enter Try.func76, Try.ntmps76
  go_wp2
  go_loopw [3, 4] (fun s i wr => ∃ k q : Nat, k ≤ n ∧ i = .int .i64 k ∧ s = .int .i64 (loadOf (l.take k) : Nat) ∧ wr = w.drewN q) (fun _ i _ => n - (intOf i).toNat)
  case atStart => exact ⟨0, 0, Nat.zero_le _, rfl, by simp [loadOf], rfl⟩
  case round =>
    obtain ⟨k, q, hk, rfl, rfl, rfl⟩ := hrel
    have hb2 := loadOf_le (l.take k) (fun x hx' => (hx x (List.mem_of_mem_take hx')).1)
    have hb3 : (l.take k).length * (9 * 2520) ≤ 8 * (9 * 2520) := Nat.mul_le_mul (by rw [List.length_take]; omega) (by omega)
    by_cases hlt : k < n
    · have hkl : k < l.length := by rw [← HN.out]; exact hlt
      obtain ⟨b, rfl, hb, h0, h1, h2⟩ := hH k hkl
      have hsn := loadOf_snoc l k hkl
      obtain ⟨fc, fd, ft1, ft2⟩ := hx _ (List.getElem_mem hkl)
      generalize l[k] = x at *
      obtain ⟨c, d, T⟩ := x
      generalize hS : loadOf (l.take k) = S at *
      generalize hS' : loadOf (l.take (k + 1)) = S' at *
      have HS : Hid (loadOf (l.take (k + 1)) = S') := hS'
      have HX : Hid (S' = S + c * (2520 / T)) := hsn
      dsimp only at *
      clear hS hsn hS' hH hx
      have g0 : (0 : Int) ≤ (k : Int) := by omega
      have g1 : (k : Int) < (n : Int) := by omega
      obtain ⟨p1, p2, p3, p4, p5⟩ := load_facts c T fc
      have P5 : Hid ((c : Int) * ((2520 : Int) / T) = ((c * (2520 / T) : Nat) : Int)) := p5
      clear p5
      go_wp2_with fail
      go_quiet (fail)
      go_wp2
      go_roundw
      case rel => exact ⟨k + 1, _, by omega, by go_num, by rw [HS.out, HX.out]; rw [P5.out]; go_num, rfl⟩
      case measure => simp [intOf]; omega
    · have e : l.take k = l := List.take_of_length_le (by rw [← HN.out]; omega)
      rw [e] at hb2 ⊢
      have HF : Hid (heavyB l = decide (2520 < loadOf l)) := rfl
      generalize loadOf l = S at *
      go_wp2
      go_ret
      exact ⟨ret_boolR (by rw [HF.out]; simp; omega), q, rfl⟩

set_option maxRecDepth 100000 in
set_option maxHeartbeats 1600000 in
theorem ref_feasible (ao : Option Addr) (n cap : Nat) (l : List Tk) (w : World) (hn : n = l.length) (hl : l.length ≤ 8) (hx : ∀ x ∈ l, x.c ≤ 9 ∧ x.d ≤ 9 ∧ 1 ≤ x.t ∧ x.t ≤ 9) (hH : HoldsA w ao l) :
    Calls Try.prog 17 #[.slice ao n cap] w fun e w' => e = .returned (.bool (feasB l)) ∧ ∃ q, w' = w.drewN q := by
  have HW : Hid (∀ (t q : Nat), t ≤ 10000 → Calls Try.prog 18 #[.slice ao n cap, .int .i64 t] (w.drewN q) fun e w' => e = .returned (.int .i64 (wanted l t)) ∧ ∃ q', w' = (w.drewN q).drewN q') :=
    fun t q ht => ref_wanted ao n cap l t (w.drewN q) hn hl hx ht hH
  have HF : Hid ((∀ t, 1 ≤ t → t ≤ 2520 → wanted l t ≤ t) → feasB l = true) := (feasB_iff l).2
  have HB : Hid (∀ t, 1 ≤ t → t ≤ 2520 → t < wanted l t → feasB l = false) := feasB_not l
  clear hn hl hx hH
  go_enter Try.func17, Try.ntmps17
  go_wp2
  go_loopw [3, 4] (fun i _ wr => ∃ k q : Nat, 1 ≤ k ∧ k ≤ 2521 ∧ i = .int .i64 k ∧ (∀ t, 1 ≤ t → t < k → wanted l t ≤ t) ∧ wr = w.drewN q) (fun i _ _ => 2521 - (intOf i).toNat)
  case atStart => exact ⟨1, 0, by omega, by omega, rfl, fun t h1 h2 => by omega, rfl⟩
  case round =>
    obtain ⟨k, q, hk1, hk, rfl, hall, rfl⟩ := hrel
    have HA : Hid (∀ t, 1 ≤ t → t < k → wanted l t ≤ t) := hall
    clear hall
    by_cases hlt : k ≤ 2520
    · have HWk : Hid (Calls Try.prog 18 #[.slice ao n cap, .int .i64 k] (w.drewN q) fun e w' => e = .returned (.int .i64 (wanted l k)) ∧ ∃ q', w' = (w.drewN q).drewN q') := HW.out k q (by omega)
      obtain ⟨W, hW⟩ : ∃ W, W = wanted l k := ⟨_, rfl⟩
      rw [← hW] at HWk
      have HE : Hid (W = wanted l k) := hW
      clear hW
      by_cases hbad : k < W
      · go_wp2_with (go_at_call 18; refine HWk.out.mono ?_; rintro e w1 ⟨rfl, q1, rfl⟩)
        go_ret
        exact ⟨ret_boolR (HB.out k hk1 hlt (by rw [← HE.out]; exact hbad)).symm, _, rfl⟩
      · go_wp2_with (go_at_call 18; refine HWk.out.mono ?_; rintro e w1 ⟨rfl, q1, rfl⟩)
        go_roundw
        case rel =>
          refine ⟨k + 1, _, by omega, by omega, by go_num, fun t h1 h2 => ?_, rfl⟩
          rcases Nat.lt_or_ge t k with h | h
          · exact HA.out t h1 h
          · obtain rfl : t = k := by omega
            rw [← HE.out]; omega
        case measure => simp [intOf]; omega
    · go_wp2
      go_ret
      exact ⟨ret_boolR (HF.out (fun t h1 h2 => HA.out t h1 (by omega))).symm, q, rfl⟩
end Go.Proofs.Ytdhofmnidlhjpab
