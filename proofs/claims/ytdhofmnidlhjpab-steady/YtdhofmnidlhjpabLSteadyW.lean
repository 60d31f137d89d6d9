import Derived.Test.YtdhofmnidlhjpabLOthers
namespace Go.Proofs.Ytdhofmnidlhjpab
open Go.RowKit

set_option maxRecDepth 100000 in
set_option maxHeartbeats 1600000 in
theorem steady_none (ao : Option Addr) (cap : Nat) (w : World) :
    Calls Try.prog 3 #[.slice ao 0 cap] w fun e w' => e = .returned (.bool true) ∧ Below w.heap.size w w' := by
  go_enter Try.func3, Try.ntmps3
  go_wp2
  go_ret
  exact ⟨rfl, Below.refl _ _⟩

def NumS (a : Int) : Prop := ∀ w : World, Calls Try.prog 8 #[.int .i64 a] w fun e w' => e = .returned (.int .i64 a) ∧ w' = w

set_option maxRecDepth 100000 in
set_option maxHeartbeats 3200000 in
theorem steady_some (ao : Option Addr) (n cap : Nat) (w : World) (hn : n ≤ 1000000000000000) (h0 : 0 < n) (hH : HoldsO w ao n) (ot : Hid (∀ (kd N M : Int) (S E : ByteArray) (w : World), i64ok kd → i64ok N → i64ok M → S.size ≤ maxLen → E.size ≤ maxLen →
      Calls Try.prog 10 #[opV kd N M S E] w fun e w' => e = .returned (.tuple #[]) ∧ Below w.heap.size w w'))
    (hA : ∀ S : ByteArray, S.size ≤ maxLen → ∃ (t e f : Int) (s : ByteArray), NumS e ∧ NumS f ∧
      (∀ w : World, Calls Try.prog 5 #[.string S] w fun r w' => r = .returned (.tuple #[.int .i64 t, .int .i64 e]) ∧ Below w.heap.size w w') ∧
      (∀ w : World, Calls Try.prog 6 #[.string S] w fun r w' => r = .returned (.tuple #[.string s, .int .i64 f]) ∧ Below w.heap.size w w') ∧
      (∀ w : World, Calls Try.prog 7 #[.string S, .int .i64 t, .int .i64 e] w fun r w' => r = .returned (.bool true) ∧ Below w.heap.size w w') ∧
      (∀ w : World, Calls Try.prog 9 #[.string S, .string s, .int .i64 f] w fun r w' => r = .returned (.bool true) ∧ Below w.heap.size w w')) :
    Calls Try.prog 3 #[.slice ao n cap] w fun e w' => e = .returned (.bool true) ∧ Below w.heap.size w w' := by
  obtain ⟨b, off, kd, N, M, S, E, rfl, hb, c0, c1, c2, c3, c4, k1, k2, k3, k4, k5⟩ := hH 0 h0
  obtain ⟨t, er, fr, s, HE, HF, hR, hB, hRd, hBd⟩ := hA S k4
  have HH : Hid (HoldsO w (some ⟨b, off, none⟩) n) := hH
  have HN1 : Hid (NumS er) := HE
  have HN2 : Hid (NumS fr) := HF
  simp only [Nat.zero_mul, Nat.add_zero] at c0 c1 c2 c3 c4
  have g0 : ((n : Int) == 0) = false := by simp; omega
  have g1 : (0 : Int) < (n : Int) := by omega
  clear hA HE HF hH k1 k2 k3 k4 k5
  go_enter Try.func3, Try.ntmps3
  go_wp2_with fail
  refine (hR _).mono ?_
  rintro e w1 ⟨rfl, hb1⟩
  have cc1 := bcellO hb1
  have q3 : w1.cell? ⟨w.heap.size, 3, none⟩ = some (.string S) := by rw [cc1 _ _ (by simp)]; simp
  have zs : w.heap.size < w1.heap.size := by have := hb1.size; simp only [World.size_alloc] at this; omega
  have B : Hid (Below w.heap.size w w1) := ((Below.refl _ _).alloc (Nat.le_refl _) _).trans (hb1.mono (by simp))
  clear cc1 hb1 c0 c1 c2 c3 c4
  go_wp2_with fail
  refine (hB _).mono ?_
  rintro e w2 ⟨rfl, hb⟩
  have q3 : w2.cell? ⟨w.heap.size, 3, none⟩ = some (.string S) := (hb.cell (p := ⟨w.heap.size, 3, none⟩) zs).trans q3
  have B : Hid (Below w.heap.size w w2) := B.out.trans (hb.mono (Nat.le_of_lt zs))
  have zs : w.heap.size < w2.heap.size := Nat.lt_of_lt_of_le zs hb.size
  clear hb
  go_wp2_with fail
  go_region_held3 (fun w' => w'.cell? ⟨w.heap.size, 3, none⟩ = some (.string S)) (first | go_keep | (rw [hb2.cell (by simpa using zs)]; simpa using ‹_›))
    (first | (go_at_call 8; refine (HN1.out _).mono ?_; rintro e w9 ⟨rfl, rfl⟩) | (go_at_call 7; refine (hRd _).mono ?_; rintro e w3 ⟨rfl, hb2⟩))
  have q3 : w3.cell? ⟨w.heap.size, 3, none⟩ = some (.string S) := (hb2.cell (p := ⟨w.heap.size, 3, none⟩) zs).trans q3
  have B : Hid (Below w.heap.size w w3) := (B.out.drew).trans (hb2.mono (Nat.le_of_lt zs))
  have zs : w.heap.size < w3.heap.size := Nat.lt_of_lt_of_le zs hb2.size
  clear hb2 hRd
  go_wp2_with fail
  go_region_held3 (fun w' => w'.cell? ⟨w.heap.size, 3, none⟩ = some (.string S)) (first | go_keep | (rw [hb2.cell (by simpa using zs)]; simpa using ‹_›))
    (first | (go_at_call 8; refine (HN2.out _).mono ?_; rintro e w9 ⟨rfl, rfl⟩) | (go_at_call 9; refine (hBd _).mono ?_; rintro e w4 ⟨rfl, hb2⟩))
  have q3 : w4.cell? ⟨w.heap.size, 3, none⟩ = some (.string S) := (hb2.cell (p := ⟨w.heap.size, 3, none⟩) zs).trans q3
  have B : Hid (Below w.heap.size w w4) := (B.out.drew).trans (hb2.mono (Nat.le_of_lt zs))
  have zs : w.heap.size < w4.heap.size := Nat.lt_of_lt_of_le zs hb2.size
  clear hb2 hBd
  go_wp2
  go_loopw [10] (fun i wr => ∃ k : Nat, k ≤ n ∧ i = .int .i64 k ∧ Below w4.heap.size w4 wr) (fun i _ => n - (intOf i).toNat)
  case atStart => exact ⟨0, Nat.zero_le _, rfl, Below.refl _ _⟩
  case round =>
    obtain ⟨k, hk, rfl, hbel⟩ := hrel
    have HB5 : Hid (Below w4.heap.size w4 wr) := hbel
    have B5 : Hid (Below w.heap.size w wr) := B.out.trans (hbel.mono (Nat.le_of_lt zs))
    by_cases hlt : k < n
    · have hH2 := HoldsO.later HH.out B5.out
      obtain ⟨b', off', kd', N', M', S', E', e', hb', c0, c1, c2, c3, c4, k1, k2, k3, k4, k5⟩ := hH2 k hlt
      obtain ⟨rfl, rfl⟩ : b' = b ∧ off' = off := by simp at e'; omega
      have g0 : (0 : Int) ≤ (k : Int) := by omega
      have g1 : (k : Int) < (n : Int) := by omega
      have g2 : (k : Int) < 1152921504606846976 := by omega
      have HPk : Hid (∀ w : World, Calls Try.prog 10 #[.agg #[.int .i64 kd', .int .i64 N', .int .i64 M', .string S', .string E']] w fun e w' => e = .returned (.tuple #[]) ∧ Below w.heap.size w w') :=
        fun w => ot.out kd' N' M' S' E' w k1 k2 k3 k4 k5
      clear hH2 hbel k1 k2 k3 k4 k5
      go_wp2_with (go_at_call 10; refine (HPk.out _).mono ?_; rintro e w5 ⟨rfl, hb5⟩)
      go_roundw
      case rel => exact ⟨k + 1, by omega, by go_num, HB5.out.trans (hb5.mono HB5.out.size)⟩
      case measure => simp [intOf]; omega
    · have q3 : wr.cell? ⟨w.heap.size, 3, none⟩ = some (.string S) := (hbel.cell (p := ⟨w.heap.size, 3, none⟩) zs).trans q3
      have zs : w.heap.size < wr.heap.size := Nat.lt_of_lt_of_le zs hbel.size
      clear hbel
      go_wp2_with fail
      refine (hR _).mono ?_
      rintro e w6 ⟨rfl, hb⟩
      have q3 : w6.cell? ⟨w.heap.size, 3, none⟩ = some (.string S) := (hb.cell (p := ⟨w.heap.size, 3, none⟩) zs).trans q3
      have B6 : Hid (Below w.heap.size w w6) := B5.out.trans (hb.mono (Nat.le_of_lt zs))
      have zs : w.heap.size < w6.heap.size := Nat.lt_of_lt_of_le zs hb.size
      clear hb
      go_wp2_with fail
      refine (hB _).mono ?_
      rintro e w7 ⟨rfl, hb⟩
      have B7 : Hid (Below w.heap.size w w7) := B6.out.trans (hb.mono (Nat.le_of_lt zs))
      clear hb
      go_wp2_with (first | (go_at_call 8; refine (HN1.out _).mono ?_; rintro e w9 ⟨rfl, rfl⟩) | (go_at_call 8; refine (HN2.out _).mono ?_; rintro e w9 ⟨rfl, rfl⟩))
      go_ret
      exact ⟨by first | rfl | simp, B7.out⟩
end Go.Proofs.Ytdhofmnidlhjpab
