import Derived.Test.YtdhofmnidlhjpaaLSafeW
import Derived.Test.YtdhofmnidlhjpaaLSpecT
namespace Go.Proofs.Ytdhofmnidlhjpaa
open Go.RowKit

def AnsS (f : Nat) (args : Array Value) (a : ByteArray) (b : Int) : Prop := ∀ w : World, Calls Try.prog f args w fun e w' => e = .returned (.tuple #[.string a, .int .i64 b]) ∧ Below w.heap.size w w'

/-- 'shown' says true of a step. -/
def ShownT : Prop :=
  ∀ (kd N M : Int) (S E : ByteArray) (w : World), i64ok kd → i64ok N → i64ok M → S.size ≤ maxLen → E.size ≤ maxLen →
    Calls Try.prog 18 #[opV kd N M S E] w fun e w' => e = .returned (.bool true) ∧ Below w.heap.size w w'

set_option maxRecDepth 100000 in
set_option maxHeartbeats 1600000 in
/-- No set. -/
theorem shown_no (c t : Int) (N M kd : Int) (s x : ByteArray) (S E : ByteArray) (w : World) (NN : Hid (NumT c)) (h0 : (c == 7) = false) (h1 : (c != 0) = true)
    (hr : Ans2 27 #[.string S] t c) (hb : AnsS 28 #[.string S] s c) (hrun : AnsS 24 #[.string S, .string ⟨#[]⟩] x c) :
    Calls Try.prog 18 #[.agg #[.int .i64 kd, .int .i64 N, .int .i64 M, .string S, .string E]] w fun e w' => e = .returned (.bool true) ∧ Below w.heap.size w w' := by
  have hcc : (c != c) = false := by simp
  go_enter Try.func18, Try.ntmps18
  go_wp2_with fail
  refine (hr _).mono ?_
  rintro e w1 ⟨rfl, hb1⟩
  obtain ⟨cc1, _⟩ := bcellL hb1
  have q3 : w1.cell? ⟨w.heap.size, 3, none⟩ = some (.string S) := by rw [cc1 _ _ (by simp)]; simp
  have zs : w.heap.size < w1.heap.size := by have := hb1.size; simp only [World.size_alloc] at this; omega
  have B : Hid (Below w.heap.size w w1) := ((Below.refl _ _).alloc (Nat.le_refl _) _).trans (hb1.mono (by simp))
  clear cc1 hb1
  go_wp2_with fail
  refine (hb _).mono ?_
  rintro e w2 ⟨rfl, hb2⟩
  have q3 : w2.cell? ⟨w.heap.size, 3, none⟩ = some (.string S) := (hb2.cell (p := ⟨w.heap.size, 3, none⟩) zs).trans q3
  have B : Hid (Below w.heap.size w w2) := B.out.trans (hb2.mono (Nat.le_of_lt zs))
  have zs : w.heap.size < w2.heap.size := Nat.lt_of_lt_of_le zs hb2.size
  clear hb2
  go_wp2_with fail
  refine (hrun _).mono ?_
  rintro e w3 ⟨rfl, hb3⟩
  have B : Hid (Below w.heap.size w w3) := B.out.trans (hb3.mono (Nat.le_of_lt zs))
  clear hb3
  go_wp2_with (go_at_call 22; refine (NN.out _).mono ?_; rintro e w9 ⟨rfl, rfl⟩)
  go_ret
  exact ⟨rfl, B.out⟩

set_option maxRecDepth 100000 in
set_option maxHeartbeats 1600000 in
/-- A feasible set. -/
theorem shown_fits (t N M kd : Int) (s x : ByteArray) (S E : ByteArray) (w : World) (N7 : Hid (NumT 7)) (N0 : Hid (NumT 0))
    (hr : Ans2 27 #[.string S] t 7) (hb : AnsS 28 #[.string S] s 7) (hrun : AnsS 24 #[.string S, .string ⟨#[]⟩] x 0) (ht : Ans3 20 #[.string S, .int .i64 2520] 1 0 0) :
    Calls Try.prog 18 #[.agg #[.int .i64 kd, .int .i64 N, .int .i64 M, .string S, .string E]] w fun e w' => e = .returned (.bool true) ∧ Below w.heap.size w w' := by
  go_enter Try.func18, Try.ntmps18
  go_wp2_with fail
  refine (hr _).mono ?_
  rintro e w1 ⟨rfl, hb1⟩
  obtain ⟨cc1, _⟩ := bcellL hb1
  have q3 : w1.cell? ⟨w.heap.size, 3, none⟩ = some (.string S) := by rw [cc1 _ _ (by simp)]; simp
  have zs : w.heap.size < w1.heap.size := by have := hb1.size; simp only [World.size_alloc] at this; omega
  have B : Hid (Below w.heap.size w w1) := ((Below.refl _ _).alloc (Nat.le_refl _) _).trans (hb1.mono (by simp))
  clear cc1 hb1
  go_wp2_with fail
  refine (hb _).mono ?_
  rintro e w2 ⟨rfl, hb2⟩
  have q3 : w2.cell? ⟨w.heap.size, 3, none⟩ = some (.string S) := (hb2.cell (p := ⟨w.heap.size, 3, none⟩) zs).trans q3
  have B : Hid (Below w.heap.size w w2) := B.out.trans (hb2.mono (Nat.le_of_lt zs))
  have zs : w.heap.size < w2.heap.size := Nat.lt_of_lt_of_le zs hb2.size
  clear hb2
  go_wp2_with fail
  refine (hrun _).mono ?_
  rintro e w3 ⟨rfl, hb3⟩
  have q3 : w3.cell? ⟨w.heap.size, 3, none⟩ = some (.string S) := (hb3.cell (p := ⟨w.heap.size, 3, none⟩) zs).trans q3
  have B : Hid (Below w.heap.size w w3) := B.out.trans (hb3.mono (Nat.le_of_lt zs))
  have zs : w.heap.size < w3.heap.size := Nat.lt_of_lt_of_le zs hb3.size
  clear hb3
  go_wp2_with (go_at_call 22; first | (refine (N7.out _).mono ?_; rintro e w9 ⟨rfl, rfl⟩))
  refine (ht _).mono ?_
  rintro e w4 ⟨rfl, hb4⟩
  have B : Hid (Below w.heap.size w w4) := B.out.trans (hb4.mono (Nat.le_of_lt zs))
  clear hb4
  go_wp2_with (go_at_call 22; refine (N0.out _).mono ?_; rintro e w9 ⟨rfl, rfl⟩)
  go_ret
  exact ⟨rfl, B.out⟩

set_option maxRecDepth 100000 in
set_option maxHeartbeats 1600000 in
/-- A set that is not feasible. -/
theorem shown_late (t n N M kd : Int) (s x0 X : ByteArray) (S E : ByteArray) (w : World) (N6 : Hid (NumT 6)) (N0 : Hid (NumT 0)) (htn : t < n)
    (hr : Ans2 27 #[.string S] t 0) (hb : AnsS 28 #[.string S] s 0) (hrun : AnsS 24 #[.string S, .string ⟨#[]⟩] x0 6)
    (hd : Ans2 21 #[.string S, .int .i64 t] n 0) (hf : AnsS 29 #[.string S, .string s] X 0)
    (hem : X.toList.isEmpty = false) (HG : Hid (∀ i, (hi : i < X.size) → X[i].toNat ≠ 63 ∧ X[i].toNat ≠ 33)) (HLs : Hid (∀ (hi : X.size - 1 < X.size), X[X.size - 1].toNat = 42)) (hpos : 0 < X.size) (hsz : X.size ≤ 18000) :
    Calls Try.prog 18 #[.agg #[.int .i64 kd, .int .i64 N, .int .i64 M, .string S, .string E]] w fun e w' => e = .returned (.bool true) ∧ Below w.heap.size w w' := by
  go_enter Try.func18, Try.ntmps18
  go_wp2_with fail
  refine (hr _).mono ?_
  rintro e w1 ⟨rfl, hb1⟩
  obtain ⟨cc1, _⟩ := bcellL hb1
  have q3 : w1.cell? ⟨w.heap.size, 3, none⟩ = some (.string S) := by rw [cc1 _ _ (by simp)]; simp
  have zs : w.heap.size < w1.heap.size := by have := hb1.size; simp only [World.size_alloc] at this; omega
  have B : Hid (Below w.heap.size w w1) := ((Below.refl _ _).alloc (Nat.le_refl _) _).trans (hb1.mono (by simp))
  clear cc1 hb1
  go_wp2_with fail
  refine (hb _).mono ?_
  rintro e w2 ⟨rfl, hb2⟩
  have q3 : w2.cell? ⟨w.heap.size, 3, none⟩ = some (.string S) := (hb2.cell (p := ⟨w.heap.size, 3, none⟩) zs).trans q3
  have B : Hid (Below w.heap.size w w2) := B.out.trans (hb2.mono (Nat.le_of_lt zs))
  have zs : w.heap.size < w2.heap.size := Nat.lt_of_lt_of_le zs hb2.size
  clear hb2
  go_wp2_with fail
  refine (hrun _).mono ?_
  rintro e w3 ⟨rfl, hb3⟩
  have q3 : w3.cell? ⟨w.heap.size, 3, none⟩ = some (.string S) := (hb3.cell (p := ⟨w.heap.size, 3, none⟩) zs).trans q3
  have B : Hid (Below w.heap.size w w3) := B.out.trans (hb3.mono (Nat.le_of_lt zs))
  have zs : w.heap.size < w3.heap.size := Nat.lt_of_lt_of_le zs hb3.size
  clear hb3
  go_wp2_with (go_at_call 22; refine (N0.out _).mono ?_; rintro e w9 ⟨rfl, rfl⟩)
  refine (hd _).mono ?_
  rintro e w4 ⟨rfl, hb4⟩
  have q3 : w4.cell? ⟨w.heap.size, 3, none⟩ = some (.string S) := (hb4.cell (p := ⟨w.heap.size, 3, none⟩) zs).trans q3
  have B : Hid (Below w.heap.size w w4) := B.out.trans (hb4.mono (Nat.le_of_lt zs))
  have zs : w.heap.size < w4.heap.size := Nat.lt_of_lt_of_le zs hb4.size
  clear hb4
  go_wp2_with fail
  refine (hf _).mono ?_
  rintro e w5 ⟨rfl, hb5⟩
  have B : Hid (Below w.heap.size w w5) := B.out.trans (hb5.mono (Nat.le_of_lt zs))
  clear hb5
  go_wp2_with fail
  refine (N6.out _).mono ?_
  rintro e w9 ⟨rfl, rfl⟩
  go_wp2_with (go_at_call 22; refine (N0.out _).mono ?_; rintro e w9 ⟨rfl, rfl⟩)
  go_loop [16] (fun i => ∃ k : Nat, k ≤ X.size ∧ i = .int .i64 k) (fun i => X.size - (intOf i).toNat)
  case atStart => exact ⟨0, by omega, rfl⟩
  case round =>
    obtain ⟨k, hk, rfl⟩ := hrel
    by_cases hlt : k < X.size
    · obtain ⟨n1, n2⟩ := HG.out k hlt
      have d1 : ((X[k].toNat : Int) == 63) = false := by simp; omega
      have d2 : ((X[k].toNat : Int) == 33) = false := by simp; omega
      clear n1 n2
      go_wp2
      go_round
      case rel => exact ⟨k + 1, by omega, by go_num⟩
      case measure => simp [intOf]; omega
    · have hls := HLs.out (by omega)
      have d3 : ((X[X.size - 1].toNat : Int) == 42) = true := by simp; omega
      clear hls
      have i1 : (0 : Int) ≤ (X.size : Int) - 1 := by omega
      have t1 : ((X.size : Int) - 1).toNat = X.size - 1 := by omega
      go_wp2
      go_ret
      exact ⟨rfl, B.out⟩
end Go.Proofs.Ytdhofmnidlhjpaa
