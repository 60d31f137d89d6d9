import Derived.Test.YtdhofmnidlhjpaaLSpec
namespace Go.Proofs.Ytdhofmnidlhjpaa
open Go.RowKit

set_option maxRecDepth 100000 in
set_option maxHeartbeats 1600000 in
/-- A walk over a script, each step by a function that says true. -/
theorem loop_shown (HS : ∀ (kd N M : Int) (S E : ByteArray) (w : World), i64ok kd → i64ok N → i64ok M → S.size ≤ maxLen → E.size ≤ maxLen → Calls Try.prog 18 #[opV kd N M S E] w fun e w' => e = .returned (.bool true) ∧ Below w.heap.size w w')
    (ao : Option Addr) (n cap : Nat) (w : World) (hn : n ≤ 1000000000000000) (hH : HoldsO w ao n) :
    Calls Try.prog 14 #[.slice ao n cap] w fun e w' => e = .returned (.bool true) ∧ Below w.heap.size w w' := by
  go_enter Try.func14, Try.ntmps14
  go_wp2
  go_loopw [3, 4] (fun i _ wr => ∃ k : Nat, k ≤ n ∧ i = .int .i64 k ∧ Below w.heap.size w wr) (fun i _ _ => n - (intOf i).toNat)
  case atStart => exact ⟨0, Nat.zero_le _, rfl, Below.refl _ _⟩
  case round =>
    obtain ⟨k, hk, rfl, hbel⟩ := hrel
    by_cases hlt : k < n
    · have hH2 := HoldsO.later hH hbel
      obtain ⟨b, off, kd, N, M, S, E, rfl, hb, c0, c1, c2, c3, c4, k1, k2, k3, k4, k5⟩ := hH2 k hlt
      have g0 : (0 : Int) ≤ (k : Int) := by omega
      have g1 : (k : Int) < (n : Int) := by omega
      have g2 : (k : Int) < 1152921504606846976 := by omega
      have HPk : Hid (∀ w : World, Calls Try.prog 18 #[.agg #[.int .i64 kd, .int .i64 N, .int .i64 M, .string S, .string E]] w fun e w' => e = .returned (.bool true) ∧ Below w.heap.size w w') :=
        fun w => HS kd N M S E w k1 k2 k3 k4 k5
      clear hH hH2
      go_wp2_with (go_at_call 18; refine (HPk.out _).mono ?_; rintro e w1 ⟨rfl, hb1⟩)
      go_roundw
      case rel => exact ⟨k + 1, by omega, by go_num, hbel.trans (hb1.mono hbel.size)⟩
      case measure => simp [intOf]; omega
    · go_wp2
      go_ret
      exact ⟨rfl, hbel⟩
end Go.Proofs.Ytdhofmnidlhjpaa
