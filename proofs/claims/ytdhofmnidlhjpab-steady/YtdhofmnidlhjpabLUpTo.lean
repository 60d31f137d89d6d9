import Derived.Test.YtdhofmnidlhjpabRHold
namespace Go.Proofs.Ytdhofmnidlhjpab
open Go.RowKit

def i64ok (n : Int) : Prop := -9223372036854775808 ≤ n ∧ n ≤ 9223372036854775807

/-- One step, as a value. -/
def opV (kd N M : Int) (S E : ByteArray) : Value := .agg #[.int .i64 kd, .int .i64 N, .int .i64 M, .string S, .string E]

/-- From the address on lie n steps. -/
def HoldsO (w : World) (ao : Option Addr) (n : Nat) : Prop :=
  ∀ i, i < n → ∃ b off kd N M S E, ao = some ⟨b, off, none⟩ ∧ b < w.heap.size ∧ w.cell? ⟨b, off + i * 5, none⟩ = some (.int .i64 kd) ∧ w.cell? ⟨b, off + i * 5 + 1, none⟩ = some (.int .i64 N) ∧
    w.cell? ⟨b, off + i * 5 + 2, none⟩ = some (.int .i64 M) ∧ w.cell? ⟨b, off + i * 5 + 3, none⟩ = some (.string S) ∧ w.cell? ⟨b, off + i * 5 + 4, none⟩ = some (.string E) ∧
    i64ok kd ∧ i64ok N ∧ i64ok M ∧ S.size ≤ maxLen ∧ E.size ≤ maxLen

theorem HoldsO.later {w w' : World} {ao : Option Addr} {n : Nat} (h : HoldsO w ao n) (hb : Below w.heap.size w w') : HoldsO w' ao n := by
  intro i hi
  obtain ⟨b, off, kd, N, M, S, E, h1, h2, c0, c1, c2, c3, c4, r⟩ := h i hi
  have hz := hb.size
  refine ⟨b, off, kd, N, M, S, E, h1, by omega, ?_, ?_, ?_, ?_, ?_, r⟩
  all_goals rw [hb.cell (p := ⟨b, _, none⟩) h2]; assumption

/-- 'plays' says true of every step of a kind from lo to hi. -/
def Plays (lo hi : Int) : Prop :=
  ∀ (kd N M : Int) (S E : ByteArray) (w : World), lo ≤ kd → kd ≤ hi → i64ok N → i64ok M → S.size ≤ maxLen → E.size ≤ maxLen →
    Calls Try.prog 28 #[opV kd N M S E] w fun e w' => e = .returned (.bool true) ∧ Below w.heap.size w w'

set_option maxRecDepth 20000 in
set_option maxHeartbeats 1600000 in
theorem upto_true (lo hi : Int) (HP : Plays lo hi) (ao : Option Addr) (n cap : Nat) (w : World) (hn : n ≤ 1000000000000000) (hH : HoldsO w ao n) :
    Calls Try.prog 11 #[.slice ao n cap, .int .i64 lo, .int .i64 hi] w fun e w' => e = .returned (.int .i64 (-1)) ∧ Below w.heap.size w w' := by
  go_enter Try.func11, Try.ntmps11
  go_wp2
  go_loopw [7, 8, 9] (fun i _ _ wr => ∃ k : Nat, k ≤ n ∧ i = .int .i64 k ∧ Below w.heap.size w wr) (fun i _ _ _ => n - (intOf i).toNat)
  case atStart => exact ⟨0, Nat.zero_le _, rfl, Below.refl _ _⟩
  case round =>
    obtain ⟨k, hk, rfl, hbel⟩ := hrel
    by_cases hlt : k < n
    · have hH2 := HoldsO.later hH hbel
      obtain ⟨b, off, kd, N, M, S, E, rfl, hb, c0, c1, c2, c3, c4, k1, k2, k3, k4, k5⟩ := hH2 k hlt
      have g0 : (0 : Int) ≤ (k : Int) := by omega
      have g1 : (k : Int) < (n : Int) := by omega
      have g2 : (k : Int) < 1152921504606846976 := by omega
      clear hH hH2
      by_cases hin : lo ≤ kd ∧ kd ≤ hi
      · obtain ⟨hin1, hin2⟩ := hin
        have HPk : Hid (∀ w : World, Calls Try.prog 28 #[.agg #[.int .i64 kd, .int .i64 N, .int .i64 M, .string S, .string E]] w fun e w' => e = .returned (.bool true) ∧ Below w.heap.size w w') :=
          fun w => HP kd N M S E w hin1 hin2 k2 k3 k4 k5
        go_wp2_with (go_at_call 28; refine (HPk.out _).mono ?_; rintro e w1 ⟨rfl, hb1⟩)
        go_roundw
        case rel => exact ⟨k + 1, by omega, by go_num, (hbel.alloc hbel.size _).trans (hb1.mono (by have := hbel.size; simp; omega))⟩
        case measure => simp [intOf]; omega
      · by_cases hlo : lo ≤ kd
        · have hhi : decide (kd ≤ hi) = false := by simp; omega
          have hlo2 : decide (lo ≤ kd) = true := by simpa using hlo
          clear hin
          go_wp2
          go_roundw
          case rel => exact ⟨k + 1, by omega, by go_num, hbel.alloc hbel.size _⟩
          case measure => simp [intOf]; omega
        · have hlo' : decide (lo ≤ kd) = false := by simpa using hlo
          clear hin hlo
          go_wp2
          go_roundw
          case rel => exact ⟨k + 1, by omega, by go_num, hbel.alloc hbel.size _⟩
          case measure => simp [intOf]; omega
    · go_wp2
      go_ret
      exact ⟨rfl, hbel⟩
end Go.Proofs.Ytdhofmnidlhjpab
