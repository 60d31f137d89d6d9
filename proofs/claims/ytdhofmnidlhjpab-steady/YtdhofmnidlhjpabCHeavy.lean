import Derived.Test.YtdhofmnidlhjpabCRead
import Derived.Test.YtdhofmnidlhjpabRHeavy
import Derived.Test.YtdhofmnidlhjpabMath
namespace Go.Proofs.Ytdhofmnidlhjpab
open Go.RowKit

set_option maxRecDepth 100000 in
set_option maxHeartbeats 1600000 in
theorem rate_of (c d T : Nat) (w : World) (hc : c ≤ 9) (hT : 1 ≤ T) (hT9 : T ≤ 9) :
    Calls Try.prog 55 #[.agg #[.int .i64 c, .int .i64 d, .int .i64 T]] w fun e w' => e = .returned (.int .i64 ((c * (2520 / T) : Nat) : Int)) ∧ Below w.heap.size w w' := by
  obtain ⟨p1, p2, p3, p4, p5⟩ := load_facts c T hc
  have P5 : Hid ((c : Int) * ((2520 : Int) / T) = ((c * (2520 / T) : Nat) : Int)) := p5
  clear p5
  go_enter Try.func55, Try.ntmps55
  go_wp2_with fail
  go_quiet (fail)
  go_wp2
  go_ret
  exact ⟨ret_int P5.out, belN ((Below.refl _ _).alloc (Nat.le_refl _) _) _⟩

theorem rate_le (c T : Nat) (hc : c ≤ 9) : c * (2520 / T) ≤ 22680 := Nat.mul_le_mul hc (Nat.div_le_self _ _)

set_option maxRecDepth 100000 in
set_option maxHeartbeats 1600000 in
theorem is_heavy (ao : Option Addr) (n cap : Nat) (l : List Tk) (w : World) (hn : n = l.length) (hl : l.length ≤ 8) (hx : ∀ x ∈ l, x.c ≤ 9 ∧ x.d ≤ 9 ∧ 1 ≤ x.t ∧ x.t ≤ 9) (hH : HoldsA w ao l) :
    Calls Try.prog 38 #[.slice ao n cap] w fun e w' => e = .returned (.bool (heavyB l)) ∧ Below w.heap.size w w' := by
  have HN : Hid (n = l.length) := hn
  have hn8 : n ≤ 8 := by omega
  clear hn hl
  go_enter Try.func38, Try.ntmps38
  go_wp2
  go_loopw [3, 4] (fun s i wr => ∃ k : Nat, k ≤ n ∧ i = .int .i64 k ∧ s = .int .i64 (loadOf (l.take k) : Nat) ∧ Below w.heap.size w wr) (fun _ i _ => n - (intOf i).toNat)
  case atStart => exact ⟨0, Nat.zero_le _, rfl, by simp [loadOf], Below.refl _ _⟩
  case round =>
    obtain ⟨k, hk, rfl, rfl, hbel⟩ := hrel
    have hb2 := loadOf_le (l.take k) (fun x hx' => (hx x (List.mem_of_mem_take hx')).1)
    have hb3 : (l.take k).length * (9 * 2520) ≤ 8 * (9 * 2520) := Nat.mul_le_mul (by rw [List.length_take]; omega) (by omega)
    by_cases hlt : k < n
    · have hkl : k < l.length := by rw [← HN.out]; exact hlt
      have hH2 := HoldsA.later hH hbel
      obtain ⟨b, rfl, hb, h0, h1, h2⟩ := hH2 k hkl
      have hsn := loadOf_snoc l k hkl
      obtain ⟨fc, fd, ft1, ft2⟩ := hx _ (List.getElem_mem hkl)
      generalize l[k] = x at *
      obtain ⟨c, d, T⟩ := x
      have hct := fun w => rate_of c d T w fc ft1 ft2
      have hpl := rate_le c T fc
      dsimp only at *
      generalize c * (2520 / T) = P at *
      have HC : Hid (∀ w : World, Calls Try.prog 55 #[.agg #[.int .i64 c, .int .i64 d, .int .i64 T]] w fun e w' => e = .returned (.int .i64 P) ∧ Below w.heap.size w w') := hct
      generalize hS : loadOf (l.take k) = S at *
      generalize hS' : loadOf (l.take (k + 1)) = S' at *
      have HS : Hid (loadOf (l.take (k + 1)) = S') := hS'
      have HX : Hid (S' = S + P) := hsn
      clear hS hsn hS' hH hx hct hH2
      have g0 : (0 : Int) ≤ (k : Int) := by omega
      have g1 : (k : Int) < (n : Int) := by omega
      go_wp2_with (go_at_call 55; refine (HC.out _).mono ?_; rintro e w1 ⟨rfl, hb1⟩)
      go_roundw
      case rel => exact ⟨k + 1, by omega, by go_num, by rw [HS.out, HX.out]; go_num, hbel.trans (hb1.mono hbel.size)⟩
      case measure => simp [intOf]; omega
    · have e : l.take k = l := List.take_of_length_le (by rw [← HN.out]; omega)
      rw [e] at hb2 ⊢
      have HF : Hid (heavyB l = decide (2520 < loadOf l)) := rfl
      generalize loadOf l = S at *
      go_wp2
      go_ret
      exact ⟨ret_boolR (by rw [HF.out]; simp; omega), hbel⟩
end Go.Proofs.Ytdhofmnidlhjpab

namespace Go.Proofs.Ytdhofmnidlhjpab
open Go.RowKit

/-- The first of n times from t on by which too much is wanted; 0: there is none. -/
def tooFrom (l : List Tk) : Nat → Nat → Nat
  | 0, _ => 0
  | n + 1, t => if t < wanted l t then t else tooFrom l n (t + 1)
def tooOf (l : List Tk) : Nat := tooFrom l 2520 1

theorem tooFrom_hit (l : List Tk) (n t : Nat) (h : t < wanted l t) : tooFrom l (n + 1) t = t := by rw [tooFrom, if_pos h]
theorem tooFrom_miss (l : List Tk) (n t : Nat) (h : ¬ t < wanted l t) : tooFrom l (n + 1) t = tooFrom l n (t + 1) := by rw [tooFrom, if_neg h]

theorem tooFrom_cases (l : List Tk) : ∀ n t, 1 ≤ t → (tooFrom l n t = 0 ∧ ∀ u, t ≤ u → u < t + n → wanted l u ≤ u) ∨ (t ≤ tooFrom l n t ∧ tooFrom l n t < t + n ∧ tooFrom l n t < wanted l (tooFrom l n t)) := by
  intro n
  induction n with
  | zero => intro t _; exact .inl ⟨rfl, fun u h1 h2 => by omega⟩
  | succ n ih =>
    intro t ht
    by_cases h : t < wanted l t
    · rw [tooFrom_hit l n t h]; exact .inr ⟨Nat.le_refl _, by omega, h⟩
    · rw [tooFrom_miss l n t h]
      rcases ih (t + 1) (by omega) with ⟨h1, h2⟩ | ⟨h1, h2, h3⟩
      · refine .inl ⟨h1, fun u h3 h4 => ?_⟩
        rcases Nat.lt_or_ge t u with h5 | h5
        · exact h2 u h5 (by omega)
        · obtain rfl : u = t := by omega
          omega
      · exact .inr ⟨by omega, by omega, h3⟩

theorem late_feas (l : List Tk) (h : feasB l = true) : tooOf l = 0 := by
  have hf := (feasB_iff l).1 h
  rcases tooFrom_cases l 2520 1 (Nat.le_refl _) with ⟨h1, _⟩ | ⟨h1, h2, h3⟩
  · exact h1
  · have := hf _ h1 (by omega); omega
theorem late_not (l : List Tk) (h : feasB l = false) : 1 ≤ tooOf l ∧ tooOf l ≤ 2520 ∧ tooOf l < wanted l (tooOf l) := by
  rcases tooFrom_cases l 2520 1 (Nat.le_refl _) with ⟨_, h2⟩ | ⟨h1, h2, h3⟩
  · rw [(feasB_iff l).2 (fun t h3 h4 => h2 t h3 (by omega))] at h; cases h
  · exact ⟨h1, by unfold tooOf; omega, h3⟩
theorem late_le (l : List Tk) : tooOf l ≤ 2520 := by
  rcases tooFrom_cases l 2520 1 (Nat.le_refl _) with ⟨h1, _⟩ | ⟨h1, h2, h3⟩ <;> (unfold tooOf; omega)

set_option maxRecDepth 100000 in
set_option maxHeartbeats 1600000 in
theorem first_late (ao : Option Addr) (n cap : Nat) (l : List Tk) (w : World) (hn : n = l.length) (hl : l.length ≤ 8) (hx : ∀ x ∈ l, x.c ≤ 9 ∧ x.d ≤ 9 ∧ 1 ≤ x.t ∧ x.t ≤ 9) (hH : HoldsA w ao l) :
    Calls Try.prog 13 #[.slice ao n cap] w fun e w' => e = .returned (.int .i64 (tooOf l)) ∧ Below w.heap.size w w' := by
  have HW : Hid (∀ (t : Nat) (wx : World), t ≤ 10000 → Below w.heap.size w wx → Calls Try.prog 32 #[.slice ao n cap, .int .i64 t] wx fun e w' => e = .returned (.int .i64 (wanted l t)) ∧ Below wx.heap.size wx w') :=
    fun t wx ht hb => wanted_by ao n cap l t wx hn hl hx ht (hH.later hb)
  have HWB : Hid (∀ t, t ≤ 2520 → wanted l t ≤ 181512) := by
    intro t ht
    have h1 := wanted_le l t (fun x hx' => (hx x hx').1)
    have h2 : l.length * (9 * (t + 1)) ≤ 8 * (9 * 2521) := Nat.mul_le_mul hl (by omega)
    omega
  clear hn hl hx hH
  go_enter Try.func13, Try.ntmps13
  go_wp2
  go_loopw [3] (fun i wr => ∃ k : Nat, 1 ≤ k ∧ k ≤ 2521 ∧ i = .int .i64 k ∧ tooOf l = tooFrom l (2521 - k) k ∧ Below w.heap.size w wr) (fun i _ => 2521 - (intOf i).toNat)
  case atStart => exact ⟨1, by omega, by omega, rfl, rfl, Below.refl _ _⟩
  case round =>
    obtain ⟨k, hk1, hk, rfl, hall, hbel⟩ := hrel
    have HA : Hid (tooOf l = tooFrom l (2521 - k) k) := hall
    clear hall
    by_cases hlt : k ≤ 2520
    · have HWk := HW.out k wr (by omega) hbel
      have hwl := HWB.out k (by omega)
      obtain ⟨W, hW⟩ : ∃ W, W = wanted l k := ⟨_, rfl⟩
      rw [← hW] at HWk hwl
      have HE : Hid (W = wanted l k) := hW
      have eF : 2521 - k = (2521 - (k + 1)) + 1 := by omega
      rw [eF] at HA
      clear hW eF
      by_cases hbad : k < W
      · go_wp2_with (go_at_call 32; refine HWk.mono ?_; rintro e w1 ⟨rfl, hb1⟩)
        go_ret
        exact ⟨ret_int (by rw [HA.out, tooFrom_hit l _ k (by rw [← HE.out]; exact hbad)]), hbel.trans (hb1.mono hbel.size)⟩
      · go_wp2_with (go_at_call 32; refine HWk.mono ?_; rintro e w1 ⟨rfl, hb1⟩)
        go_roundw
        case rel => exact ⟨k + 1, by omega, by omega, by go_num, by rw [HA.out]; exact tooFrom_miss l _ k (by rw [← HE.out]; exact hbad), hbel.trans (hb1.mono hbel.size)⟩
        case measure => simp [intOf]; omega
    · have e0 : 2521 - k = 0 := by omega
      go_wp2
      go_ret
      exact ⟨ret_int (by rw [HA.out, e0]; rfl), hbel⟩
end Go.Proofs.Ytdhofmnidlhjpab
