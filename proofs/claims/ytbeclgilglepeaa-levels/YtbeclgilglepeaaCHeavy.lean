import Derived.Test.YtbeclgilglepeaaCDemand
import Derived.Test.YtbeclgilglepeaaRHeavy
namespace Go.Proofs.Ytbeclgilglepeaa
open Go.RowKit

set_option maxRecDepth 100000 in
set_option maxHeartbeats 1600000 in
theorem rate_of (c d T : Nat) (w : World) (hc : c ≤ 9) (hT : 1 ≤ T) (hT9 : T ≤ 9) :
    Calls Try.prog 54 #[.agg #[.int .i64 c, .int .i64 d, .int .i64 T]] w fun e w' => e = .returned (.int .i64 ((c * (2520 / T) : Nat) : Int)) ∧ Below w.heap.size w w' := by
  obtain ⟨p1, p2, p3, p4, p5⟩ := load_facts c T hc
  have P5 : Hid ((c : Int) * ((2520 : Int) / T) = ((c * (2520 / T) : Nat) : Int)) := p5
  clear p5
  go_enter Try.func54, Try.ntmps54
  go_wp2_with fail
  go_quiet (fail)
  go_wp2
  go_ret
  exact ⟨ret_int P5.out, belN ((Below.refl _ _).alloc (Nat.le_refl _) _) _⟩

theorem rate_le (c T : Nat) (hc : c ≤ 9) : c * (2520 / T) ≤ 22680 := Nat.mul_le_mul hc (Nat.div_le_self _ _)

set_option maxRecDepth 100000 in
set_option maxHeartbeats 1600000 in
theorem is_heavy (ao : Option Addr) (n cap : Nat) (l : List Tk) (w : World) (hn : n = l.length) (hl : l.length ≤ 8) (hx : ∀ x ∈ l, x.c ≤ 9 ∧ x.d ≤ 9 ∧ 1 ≤ x.t ∧ x.t ≤ 9) (hH : HoldsA w ao l) :
    Calls Try.prog 30 #[.slice ao n cap] w fun e w' => e = .returned (.bool (heavyB l)) ∧ Below w.heap.size w w' := by
  have HN : Hid (n = l.length) := hn
  have hn8 : n ≤ 8 := by omega
  clear hn hl
  go_enter Try.func30, Try.ntmps30
  go_wp2
  go_loopw [3, 4] (fun s i wr => ∃ k : Nat, k ≤ n ∧ i = .int .i64 k ∧ s = .int .i64 (loadOf (l.take k) : Nat) ∧ Below w.heap.size w wr) (fun _ i _ => n - (intOf i).toNat)
  case atStart => exact ⟨0, Nat.zero_le _, rfl, by simp [loadOf], Below.refl _ _⟩
  case round =>
    obtain ⟨k, hk, rfl, rfl, hbel⟩ := hrel
    have hb2 := loadOf_le (l.take k) (fun x hx' => (hx x (List.mem_of_mem_take hx')).1)
    have hb3 : (l.take k).length * (9 * 2520) ≤ 8 * (9 * 2520) := Nat.mul_le_mul (by rw [List.length_take]; omega) (by omega)
    by_cases hlt : k < n
    · have hkl : k < l.length := by rw [← HN.out]; exact hlt
      have hH2 := HoldsA.later hH hbel
      obtain ⟨b, rfl, hb, h0, h1, h2⟩ := hH2 k hkl
      have hsn := loadOf_snoc l k hkl
      obtain ⟨fc, fd, ft1, ft2⟩ := hx _ (List.getElem_mem hkl)
      generalize l[k] = x at *
      obtain ⟨c, d, T⟩ := x
      have hct := fun w => rate_of c d T w fc ft1 ft2
      have hpl := rate_le c T fc
      dsimp only at *
      generalize c * (2520 / T) = P at *
      have HC : Hid (∀ w : World, Calls Try.prog 54 #[.agg #[.int .i64 c, .int .i64 d, .int .i64 T]] w fun e w' => e = .returned (.int .i64 P) ∧ Below w.heap.size w w') := hct
      generalize hS : loadOf (l.take k) = S at *
      generalize hS' : loadOf (l.take (k + 1)) = S' at *
      have HS : Hid (loadOf (l.take (k + 1)) = S') := hS'
      have HX : Hid (S' = S + P) := hsn
      clear hS hsn hS' hH hx hct hH2
      have g0 : (0 : Int) ≤ (k : Int) := by omega
      have g1 : (k : Int) < (n : Int) := by omega
      go_wp2_with (go_at_call 54; refine (HC.out _).mono ?_; rintro e w1 ⟨rfl, hb1⟩)
      go_roundw
      case rel => exact ⟨k + 1, by omega, by go_num, by rw [HS.out, HX.out]; go_num, hbel.trans (hb1.mono hbel.size)⟩
      case measure => simp [intOf]; omega
    · have e : l.take k = l := List.take_of_length_le (by rw [← HN.out]; omega)
      rw [e] at hb2 ⊢
      have HF : Hid (heavyB l = decide (2520 < loadOf l)) := rfl
      generalize loadOf l = S at *
      go_wp2
      go_ret
      exact ⟨ret_boolR (by rw [HF.out]; simp; omega), hbel⟩
end Go.Proofs.Ytbeclgilglepeaa
