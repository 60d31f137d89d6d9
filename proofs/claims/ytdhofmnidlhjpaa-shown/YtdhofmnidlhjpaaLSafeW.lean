import Derived.Test.YtdhofmnidlhjpaaMath7
import Derived.Test.YtdhofmnidlhjpaaLPlays2
namespace Go.Proofs.Ytdhofmnidlhjpaa
open Go.RowKit

/-- 'safe' says true of a step. -/
def SafeT : Prop :=
  ∀ (kd N M : Int) (S E : ByteArray) (w : World), i64ok kd → i64ok N → i64ok M → S.size ≤ maxLen → E.size ≤ maxLen →
    Calls Try.prog 16 #[opV kd N M S E] w fun e w' => e = .returned (.bool true) ∧ Below w.heap.size w w'

/-- A call that answers three numbers; two numbers; a truth value and a number. -/
def Ans3 (f : Nat) (args : Array Value) (a b c : Int) : Prop := ∀ w : World, Calls Try.prog f args w fun e w' => e = .returned (.tuple #[.int .i64 a, .int .i64 b, .int .i64 c]) ∧ Below w.heap.size w w'
def Ans2 (f : Nat) (args : Array Value) (a b : Int) : Prop := ∀ w : World, Calls Try.prog f args w fun e w' => e = .returned (.tuple #[.int .i64 a, .int .i64 b]) ∧ Below w.heap.size w w'
def AnsB (f : Nat) (args : Array Value) (a : Bool) (b : Int) : Prop := ∀ w : World, Calls Try.prog f args w fun e w' => e = .returned (.tuple #[.bool a, .int .i64 b]) ∧ Below w.heap.size w w'
def NumT (a : Int) : Prop := ∀ w : World, Calls Try.prog 22 #[.int .i64 a] w fun e w' => e = .returned (.int .i64 a) ∧ w' = w
theorem numT (a : Int) (h : i64ok a) : NumT a := fun w => num_ok a w h

set_option maxRecDepth 100000 in
set_option maxHeartbeats 3200000 in
theorem safe_A0 (v at1 n f N M : Int) (ok : Bool) (S E : ByteArray) (kd : Int) (w : World) (HI : (∀ a, i64ok a → NumT a) ∧ i64ok 0 ∧ i64ok 4 ∧ i64ok f)
    (e : Int) (hv : Ans3 20 #[.string S, .int .i64 N] v at1 e) (he : (e == 0) = false) (h : Int) (hl : AnsB 23 #[.string S, .int .i64 N] ok h) (hh : (h != 0) = true)
    (HJ : i64ok e ∧ i64ok h) (hd : Ans2 21 #[.string S, .int .i64 M] n f) :
    Calls Try.prog 16 #[.agg #[.int .i64 kd, .int .i64 N, .int .i64 M, .string S, .string E]] w fun e w' => e = .returned (.bool true) ∧ Below w.heap.size w w' := by
  obtain ⟨nn, hi0, hi4, hif⟩ := HI
  obtain ⟨hie, hih⟩ := HJ
  have NN : Hid (∀ a, i64ok a → NumT a) := nn
  clear nn
  go_enter Try.func16, Try.ntmps16
  go_wp2_with (go_at_call 22; refine (NN.out _ ?_ _).mono ?_; (first | exact hie | exact hif | exact hih | exact hi0 | exact hi4); rintro e w9 ⟨rfl, rfl⟩)
  refine (hv _).mono ?_
  rintro e w1 ⟨rfl, hb_w1⟩
  obtain ⟨cc_w1, _⟩ := bcellL hb_w1
  have q3 : w1.cell? ⟨w.heap.size, 3, none⟩ = some (.string S) := by rw [cc_w1 _ _ (by simp)]; simp
  have q2 : w1.cell? ⟨w.heap.size, 2, none⟩ = some (.int .i64 M) := by rw [cc_w1 _ _ (by simp)]; simp
  have q1 : w1.cell? ⟨w.heap.size, 1, none⟩ = some (.int .i64 N) := by rw [cc_w1 _ _ (by simp)]; simp
  have zs : w.heap.size < w1.heap.size := by have := hb_w1.size; simp only [World.size_alloc] at this; omega
  have B : Hid (Below w.heap.size w w1) := ((Below.refl _ _).alloc (Nat.le_refl _) _).trans (hb_w1.mono (by simp))
  clear cc_w1 hb_w1
  go_wp2_with (go_at_call 22; refine (NN.out _ ?_ _).mono ?_; (first | exact hie | exact hif | exact hih | exact hi0 | exact hi4); rintro e w9 ⟨rfl, rfl⟩)
  refine (hd _).mono ?_
  rintro e w2 ⟨rfl, hb_w2⟩
  have q3 : w2.cell? ⟨w.heap.size, 3, none⟩ = some (.string S) := (hb_w2.cell (p := ⟨w.heap.size, 3, none⟩) zs).trans q3
  have q2 : w2.cell? ⟨w.heap.size, 2, none⟩ = some (.int .i64 M) := (hb_w2.cell (p := ⟨w.heap.size, 2, none⟩) zs).trans q2
  have q1 : w2.cell? ⟨w.heap.size, 1, none⟩ = some (.int .i64 N) := (hb_w2.cell (p := ⟨w.heap.size, 1, none⟩) zs).trans q1
  have B : Hid (Below w.heap.size w w2) := B.out.trans (hb_w2.mono (Nat.le_of_lt zs))
  have zs : w.heap.size < w2.heap.size := Nat.lt_of_lt_of_le zs hb_w2.size
  clear hb_w2
  go_wp2_with (go_at_call 22; refine (NN.out _ ?_ _).mono ?_; (first | exact hie | exact hif | exact hih | exact hi0 | exact hi4); rintro e w9 ⟨rfl, rfl⟩)
  refine (hl _).mono ?_
  rintro e w4 ⟨rfl, hb_w4⟩
  have q3 : w4.cell? ⟨w.heap.size, 3, none⟩ = some (.string S) := (hb_w4.cell (p := ⟨w.heap.size, 3, none⟩) zs).trans q3
  have q2 : w4.cell? ⟨w.heap.size, 2, none⟩ = some (.int .i64 M) := (hb_w4.cell (p := ⟨w.heap.size, 2, none⟩) zs).trans q2
  have q1 : w4.cell? ⟨w.heap.size, 1, none⟩ = some (.int .i64 N) := (hb_w4.cell (p := ⟨w.heap.size, 1, none⟩) zs).trans q1
  have B : Hid (Below w.heap.size w w4) := B.out.trans (hb_w4.mono (Nat.le_of_lt zs))
  have zs : w.heap.size < w4.heap.size := Nat.lt_of_lt_of_le zs hb_w4.size
  clear hb_w4
  go_wp2_with (go_at_call 22; refine (NN.out _ ?_ _).mono ?_; (first | exact hie | exact hif | exact hih | exact hi0 | exact hi4); rintro e w9 ⟨rfl, rfl⟩)
  go_ret
  exact ⟨rfl, B.out⟩

set_option maxRecDepth 100000 in
set_option maxHeartbeats 3200000 in
theorem safe_A1 (v at1 n f N M : Int) (ok : Bool) (S E : ByteArray) (kd : Int) (w : World) (HI : (∀ a, i64ok a → NumT a) ∧ i64ok 0 ∧ i64ok 4 ∧ i64ok f ∧ -1 ≤ N)
    (e : Int) (hv : Ans3 20 #[.string S, .int .i64 N] v at1 e) (he : (e == 0) = false) (h : Int) (hl : AnsB 23 #[.string S, .int .i64 N] ok h) (hh : (h != 0) = true)
    (HJ : i64ok e ∧ i64ok h) (hd : Ans2 21 #[.string S, .int .i64 M] n f) :
    Calls Try.prog 16 #[.agg #[.int .i64 kd, .int .i64 N, .int .i64 M, .string S, .string E]] w fun e w' => e = .returned (.bool true) ∧ Below w.heap.size w w' := by
  obtain ⟨nn, hi0, hi4, hif, hN⟩ := HI
  obtain ⟨hie, hih⟩ := HJ
  have NN : Hid (∀ a, i64ok a → NumT a) := nn
  clear nn
  go_enter Try.func16, Try.ntmps16
  go_wp2_with (go_at_call 22; refine (NN.out _ ?_ _).mono ?_; (first | exact hie | exact hif | exact hih | exact hi0 | exact hi4); rintro e w9 ⟨rfl, rfl⟩)
  refine (hv _).mono ?_
  rintro e w1 ⟨rfl, hb_w1⟩
  obtain ⟨cc_w1, _⟩ := bcellL hb_w1
  have q3 : w1.cell? ⟨w.heap.size, 3, none⟩ = some (.string S) := by rw [cc_w1 _ _ (by simp)]; simp
  have q2 : w1.cell? ⟨w.heap.size, 2, none⟩ = some (.int .i64 M) := by rw [cc_w1 _ _ (by simp)]; simp
  have q1 : w1.cell? ⟨w.heap.size, 1, none⟩ = some (.int .i64 N) := by rw [cc_w1 _ _ (by simp)]; simp
  have zs : w.heap.size < w1.heap.size := by have := hb_w1.size; simp only [World.size_alloc] at this; omega
  have B : Hid (Below w.heap.size w w1) := ((Below.refl _ _).alloc (Nat.le_refl _) _).trans (hb_w1.mono (by simp))
  clear cc_w1 hb_w1
  go_wp2_with (go_at_call 22; refine (NN.out _ ?_ _).mono ?_; (first | exact hie | exact hif | exact hih | exact hi0 | exact hi4); rintro e w9 ⟨rfl, rfl⟩)
  refine (hd _).mono ?_
  rintro e w2 ⟨rfl, hb_w2⟩
  have q3 : w2.cell? ⟨w.heap.size, 3, none⟩ = some (.string S) := (hb_w2.cell (p := ⟨w.heap.size, 3, none⟩) zs).trans q3
  have q2 : w2.cell? ⟨w.heap.size, 2, none⟩ = some (.int .i64 M) := (hb_w2.cell (p := ⟨w.heap.size, 2, none⟩) zs).trans q2
  have q1 : w2.cell? ⟨w.heap.size, 1, none⟩ = some (.int .i64 N) := (hb_w2.cell (p := ⟨w.heap.size, 1, none⟩) zs).trans q1
  have B : Hid (Below w.heap.size w w2) := B.out.trans (hb_w2.mono (Nat.le_of_lt zs))
  have zs : w.heap.size < w2.heap.size := Nat.lt_of_lt_of_le zs hb_w2.size
  clear hb_w2
  go_wp2_with (go_at_call 22; refine (NN.out _ ?_ _).mono ?_; (first | exact hie | exact hif | exact hih | exact hi0 | exact hi4); rintro e w9 ⟨rfl, rfl⟩)
  refine (hl _).mono ?_
  rintro e w4 ⟨rfl, hb_w4⟩
  have q3 : w4.cell? ⟨w.heap.size, 3, none⟩ = some (.string S) := (hb_w4.cell (p := ⟨w.heap.size, 3, none⟩) zs).trans q3
  have q2 : w4.cell? ⟨w.heap.size, 2, none⟩ = some (.int .i64 M) := (hb_w4.cell (p := ⟨w.heap.size, 2, none⟩) zs).trans q2
  have q1 : w4.cell? ⟨w.heap.size, 1, none⟩ = some (.int .i64 N) := (hb_w4.cell (p := ⟨w.heap.size, 1, none⟩) zs).trans q1
  have B : Hid (Below w.heap.size w w4) := B.out.trans (hb_w4.mono (Nat.le_of_lt zs))
  have zs : w.heap.size < w4.heap.size := Nat.lt_of_lt_of_le zs hb_w4.size
  clear hb_w4
  go_wp2_with (go_at_call 22; refine (NN.out _ ?_ _).mono ?_; (first | exact hie | exact hif | exact hih | exact hi0 | exact hi4); rintro e w9 ⟨rfl, rfl⟩)
  go_ret
  exact ⟨rfl, B.out⟩

set_option maxRecDepth 100000 in
set_option maxHeartbeats 3200000 in
theorem safe_B1 (_v at1 n f N M : Int) (ok : Bool) (S E : ByteArray) (kd : Int) (w : World) (HI : (∀ a, i64ok a → NumT a) ∧ i64ok 0 ∧ i64ok 4 ∧ i64ok f ∧ -1 ≤ N)
    (hv : Ans3 20 #[.string S, .int .i64 N] 1 at1 0) (hfz : (f == 0) = false) (h : Int) (hl : AnsB 23 #[.string S, .int .i64 N] ok h) (hh : (h != 0) = true)
    (HJ : i64ok 0 ∧ i64ok h) (hd : Ans2 21 #[.string S, .int .i64 M] n f) :
    Calls Try.prog 16 #[.agg #[.int .i64 kd, .int .i64 N, .int .i64 M, .string S, .string E]] w fun e w' => e = .returned (.bool true) ∧ Below w.heap.size w w' := by
  obtain ⟨nn, hi0, hi4, hif, hN⟩ := HI
  obtain ⟨hie, hih⟩ := HJ
  have NN : Hid (∀ a, i64ok a → NumT a) := nn
  clear nn
  go_enter Try.func16, Try.ntmps16
  go_wp2_with (go_at_call 22; refine (NN.out _ ?_ _).mono ?_; (first | exact hie | exact hif | exact hih | exact hi0 | exact hi4); rintro e w9 ⟨rfl, rfl⟩)
  refine (hv _).mono ?_
  rintro e w1 ⟨rfl, hb_w1⟩
  obtain ⟨cc_w1, _⟩ := bcellL hb_w1
  have q3 : w1.cell? ⟨w.heap.size, 3, none⟩ = some (.string S) := by rw [cc_w1 _ _ (by simp)]; simp
  have q2 : w1.cell? ⟨w.heap.size, 2, none⟩ = some (.int .i64 M) := by rw [cc_w1 _ _ (by simp)]; simp
  have q1 : w1.cell? ⟨w.heap.size, 1, none⟩ = some (.int .i64 N) := by rw [cc_w1 _ _ (by simp)]; simp
  have zs : w.heap.size < w1.heap.size := by have := hb_w1.size; simp only [World.size_alloc] at this; omega
  have B : Hid (Below w.heap.size w w1) := ((Below.refl _ _).alloc (Nat.le_refl _) _).trans (hb_w1.mono (by simp))
  clear cc_w1 hb_w1
  go_wp2_with (go_at_call 22; refine (NN.out _ ?_ _).mono ?_; (first | exact hie | exact hif | exact hih | exact hi0 | exact hi4); rintro e w9 ⟨rfl, rfl⟩)
  refine (hd _).mono ?_
  rintro e w2 ⟨rfl, hb_w2⟩
  have q3 : w2.cell? ⟨w.heap.size, 3, none⟩ = some (.string S) := (hb_w2.cell (p := ⟨w.heap.size, 3, none⟩) zs).trans q3
  have q2 : w2.cell? ⟨w.heap.size, 2, none⟩ = some (.int .i64 M) := (hb_w2.cell (p := ⟨w.heap.size, 2, none⟩) zs).trans q2
  have q1 : w2.cell? ⟨w.heap.size, 1, none⟩ = some (.int .i64 N) := (hb_w2.cell (p := ⟨w.heap.size, 1, none⟩) zs).trans q1
  have B : Hid (Below w.heap.size w w2) := B.out.trans (hb_w2.mono (Nat.le_of_lt zs))
  have zs : w.heap.size < w2.heap.size := Nat.lt_of_lt_of_le zs hb_w2.size
  clear hb_w2
  go_wp2_with (go_at_call 22; refine (NN.out _ ?_ _).mono ?_; (first | exact hie | exact hif | exact hih | exact hi0 | exact hi4); rintro e w9 ⟨rfl, rfl⟩)
  refine (hl _).mono ?_
  rintro e w4 ⟨rfl, hb_w4⟩
  have q3 : w4.cell? ⟨w.heap.size, 3, none⟩ = some (.string S) := (hb_w4.cell (p := ⟨w.heap.size, 3, none⟩) zs).trans q3
  have q2 : w4.cell? ⟨w.heap.size, 2, none⟩ = some (.int .i64 M) := (hb_w4.cell (p := ⟨w.heap.size, 2, none⟩) zs).trans q2
  have q1 : w4.cell? ⟨w.heap.size, 1, none⟩ = some (.int .i64 N) := (hb_w4.cell (p := ⟨w.heap.size, 1, none⟩) zs).trans q1
  have B : Hid (Below w.heap.size w w4) := B.out.trans (hb_w4.mono (Nat.le_of_lt zs))
  have zs : w.heap.size < w4.heap.size := Nat.lt_of_lt_of_le zs hb_w4.size
  clear hb_w4
  go_wp2_with (go_at_call 22; refine (NN.out _ ?_ _).mono ?_; (first | exact hie | exact hif | exact hih | exact hi0 | exact hi4); rintro e w9 ⟨rfl, rfl⟩)
  go_ret
  exact ⟨rfl, B.out⟩

set_option maxRecDepth 100000 in
set_option maxHeartbeats 3200000 in
theorem safe_B2 (_v at1 n f N M : Int) (_ok : Bool) (S E : ByteArray) (kd : Int) (w : World) (HI : (∀ a, i64ok a → NumT a) ∧ i64ok 0 ∧ i64ok 4 ∧ i64ok f ∧ -1 ≤ N)
    (hv : Ans3 20 #[.string S, .int .i64 N] 1 at1 0) (hfz : (f == 0) = false) (hl : AnsB 23 #[.string S, .int .i64 N] false 0)
    (HJ : i64ok 0 ∧ i64ok 0) (hd : Ans2 21 #[.string S, .int .i64 M] n f) :
    Calls Try.prog 16 #[.agg #[.int .i64 kd, .int .i64 N, .int .i64 M, .string S, .string E]] w fun e w' => e = .returned (.bool true) ∧ Below w.heap.size w w' := by
  obtain ⟨nn, hi0, hi4, hif, hN⟩ := HI
  obtain ⟨hie, hih⟩ := HJ
  have NN : Hid (∀ a, i64ok a → NumT a) := nn
  clear nn
  go_enter Try.func16, Try.ntmps16
  go_wp2_with (go_at_call 22; refine (NN.out _ ?_ _).mono ?_; (first | exact hie | exact hif | exact hih | exact hi0 | exact hi4); rintro e w9 ⟨rfl, rfl⟩)
  refine (hv _).mono ?_
  rintro e w1 ⟨rfl, hb_w1⟩
  obtain ⟨cc_w1, _⟩ := bcellL hb_w1
  have q3 : w1.cell? ⟨w.heap.size, 3, none⟩ = some (.string S) := by rw [cc_w1 _ _ (by simp)]; simp
  have q2 : w1.cell? ⟨w.heap.size, 2, none⟩ = some (.int .i64 M) := by rw [cc_w1 _ _ (by simp)]; simp
  have q1 : w1.cell? ⟨w.heap.size, 1, none⟩ = some (.int .i64 N) := by rw [cc_w1 _ _ (by simp)]; simp
  have zs : w.heap.size < w1.heap.size := by have := hb_w1.size; simp only [World.size_alloc] at this; omega
  have B : Hid (Below w.heap.size w w1) := ((Below.refl _ _).alloc (Nat.le_refl _) _).trans (hb_w1.mono (by simp))
  clear cc_w1 hb_w1
  go_wp2_with (go_at_call 22; refine (NN.out _ ?_ _).mono ?_; (first | exact hie | exact hif | exact hih | exact hi0 | exact hi4); rintro e w9 ⟨rfl, rfl⟩)
  refine (hd _).mono ?_
  rintro e w2 ⟨rfl, hb_w2⟩
  have q3 : w2.cell? ⟨w.heap.size, 3, none⟩ = some (.string S) := (hb_w2.cell (p := ⟨w.heap.size, 3, none⟩) zs).trans q3
  have q2 : w2.cell? ⟨w.heap.size, 2, none⟩ = some (.int .i64 M) := (hb_w2.cell (p := ⟨w.heap.size, 2, none⟩) zs).trans q2
  have q1 : w2.cell? ⟨w.heap.size, 1, none⟩ = some (.int .i64 N) := (hb_w2.cell (p := ⟨w.heap.size, 1, none⟩) zs).trans q1
  have B : Hid (Below w.heap.size w w2) := B.out.trans (hb_w2.mono (Nat.le_of_lt zs))
  have zs : w.heap.size < w2.heap.size := Nat.lt_of_lt_of_le zs hb_w2.size
  clear hb_w2
  go_wp2_with (go_at_call 22; refine (NN.out _ ?_ _).mono ?_; (first | exact hie | exact hif | exact hih | exact hi0 | exact hi4); rintro e w9 ⟨rfl, rfl⟩)
  refine (hl _).mono ?_
  rintro e w4 ⟨rfl, hb_w4⟩
  have q3 : w4.cell? ⟨w.heap.size, 3, none⟩ = some (.string S) := (hb_w4.cell (p := ⟨w.heap.size, 3, none⟩) zs).trans q3
  have q2 : w4.cell? ⟨w.heap.size, 2, none⟩ = some (.int .i64 M) := (hb_w4.cell (p := ⟨w.heap.size, 2, none⟩) zs).trans q2
  have q1 : w4.cell? ⟨w.heap.size, 1, none⟩ = some (.int .i64 N) := (hb_w4.cell (p := ⟨w.heap.size, 1, none⟩) zs).trans q1
  have B : Hid (Below w.heap.size w w4) := B.out.trans (hb_w4.mono (Nat.le_of_lt zs))
  have zs : w.heap.size < w4.heap.size := Nat.lt_of_lt_of_le zs hb_w4.size
  clear hb_w4
  go_wp2_with (go_at_call 22; refine (NN.out _ ?_ _).mono ?_; (first | exact hie | exact hif | exact hih | exact hi0 | exact hi4); rintro e w9 ⟨rfl, rfl⟩)
  go_ret
  exact ⟨rfl, B.out⟩

set_option maxRecDepth 100000 in
set_option maxHeartbeats 3200000 in
theorem safe_B3 (_v at1 n f N M : Int) (_ok : Bool) (S E : ByteArray) (kd : Int) (w : World) (HI : (∀ a, i64ok a → NumT a) ∧ i64ok 0 ∧ i64ok 4 ∧ i64ok f ∧ -1 ≤ N)
    (hv : Ans3 20 #[.string S, .int .i64 N] 1 at1 0) (hfz : (f == 0) = false) (hl : AnsB 23 #[.string S, .int .i64 N] true 0) (ht2 : Ans3 20 #[.string S, .int .i64 2520] 1 0 0) (hl2 : AnsB 23 #[.string S, .int .i64 (N + 1)] true 0) (hN20 : N ≤ 20)
    (HJ : i64ok 0 ∧ i64ok 0) (hd : Ans2 21 #[.string S, .int .i64 M] n f) :
    Calls Try.prog 16 #[.agg #[.int .i64 kd, .int .i64 N, .int .i64 M, .string S, .string E]] w fun e w' => e = .returned (.bool true) ∧ Below w.heap.size w w' := by
  obtain ⟨nn, hi0, hi4, hif, hN⟩ := HI
  obtain ⟨hie, hih⟩ := HJ
  have NN : Hid (∀ a, i64ok a → NumT a) := nn
  clear nn
  go_enter Try.func16, Try.ntmps16
  go_wp2_with (go_at_call 22; refine (NN.out _ ?_ _).mono ?_; (first | exact hie | exact hif | exact hih | exact hi0 | exact hi4); rintro e w9 ⟨rfl, rfl⟩)
  refine (hv _).mono ?_
  rintro e w1 ⟨rfl, hb_w1⟩
  obtain ⟨cc_w1, _⟩ := bcellL hb_w1
  have q3 : w1.cell? ⟨w.heap.size, 3, none⟩ = some (.string S) := by rw [cc_w1 _ _ (by simp)]; simp
  have q2 : w1.cell? ⟨w.heap.size, 2, none⟩ = some (.int .i64 M) := by rw [cc_w1 _ _ (by simp)]; simp
  have q1 : w1.cell? ⟨w.heap.size, 1, none⟩ = some (.int .i64 N) := by rw [cc_w1 _ _ (by simp)]; simp
  have zs : w.heap.size < w1.heap.size := by have := hb_w1.size; simp only [World.size_alloc] at this; omega
  have B : Hid (Below w.heap.size w w1) := ((Below.refl _ _).alloc (Nat.le_refl _) _).trans (hb_w1.mono (by simp))
  clear cc_w1 hb_w1
  go_wp2_with (go_at_call 22; refine (NN.out _ ?_ _).mono ?_; (first | exact hie | exact hif | exact hih | exact hi0 | exact hi4); rintro e w9 ⟨rfl, rfl⟩)
  refine (hd _).mono ?_
  rintro e w2 ⟨rfl, hb_w2⟩
  have q3 : w2.cell? ⟨w.heap.size, 3, none⟩ = some (.string S) := (hb_w2.cell (p := ⟨w.heap.size, 3, none⟩) zs).trans q3
  have q2 : w2.cell? ⟨w.heap.size, 2, none⟩ = some (.int .i64 M) := (hb_w2.cell (p := ⟨w.heap.size, 2, none⟩) zs).trans q2
  have q1 : w2.cell? ⟨w.heap.size, 1, none⟩ = some (.int .i64 N) := (hb_w2.cell (p := ⟨w.heap.size, 1, none⟩) zs).trans q1
  have B : Hid (Below w.heap.size w w2) := B.out.trans (hb_w2.mono (Nat.le_of_lt zs))
  have zs : w.heap.size < w2.heap.size := Nat.lt_of_lt_of_le zs hb_w2.size
  clear hb_w2
  go_wp2_with (go_at_call 22; refine (NN.out _ ?_ _).mono ?_; (first | exact hie | exact hif | exact hih | exact hi0 | exact hi4); rintro e w9 ⟨rfl, rfl⟩)
  refine (hl _).mono ?_
  rintro e w4 ⟨rfl, hb_w4⟩
  have q3 : w4.cell? ⟨w.heap.size, 3, none⟩ = some (.string S) := (hb_w4.cell (p := ⟨w.heap.size, 3, none⟩) zs).trans q3
  have q2 : w4.cell? ⟨w.heap.size, 2, none⟩ = some (.int .i64 M) := (hb_w4.cell (p := ⟨w.heap.size, 2, none⟩) zs).trans q2
  have q1 : w4.cell? ⟨w.heap.size, 1, none⟩ = some (.int .i64 N) := (hb_w4.cell (p := ⟨w.heap.size, 1, none⟩) zs).trans q1
  have B : Hid (Below w.heap.size w w4) := B.out.trans (hb_w4.mono (Nat.le_of_lt zs))
  have zs : w.heap.size < w4.heap.size := Nat.lt_of_lt_of_le zs hb_w4.size
  clear hb_w4
  go_wp2_with (go_at_call 22; refine (NN.out _ ?_ _).mono ?_; (first | exact hie | exact hif | exact hih | exact hi0 | exact hi4); rintro e w9 ⟨rfl, rfl⟩)
  refine (ht2 _).mono ?_
  rintro e w5 ⟨rfl, hb_w5⟩
  have q3 : w5.cell? ⟨w.heap.size, 3, none⟩ = some (.string S) := (hb_w5.cell (p := ⟨w.heap.size, 3, none⟩) zs).trans q3
  have q2 : w5.cell? ⟨w.heap.size, 2, none⟩ = some (.int .i64 M) := (hb_w5.cell (p := ⟨w.heap.size, 2, none⟩) zs).trans q2
  have q1 : w5.cell? ⟨w.heap.size, 1, none⟩ = some (.int .i64 N) := (hb_w5.cell (p := ⟨w.heap.size, 1, none⟩) zs).trans q1
  have B : Hid (Below w.heap.size w w5) := B.out.trans (hb_w5.mono (Nat.le_of_lt zs))
  have zs : w.heap.size < w5.heap.size := Nat.lt_of_lt_of_le zs hb_w5.size
  clear hb_w5
  go_wp2_with (go_at_call 22; refine (NN.out _ ?_ _).mono ?_; (first | exact hie | exact hif | exact hih | exact hi0 | exact hi4); rintro e w9 ⟨rfl, rfl⟩)
  refine (hl2 _).mono ?_
  rintro e w6 ⟨rfl, hb_w6⟩
  have q3 : w6.cell? ⟨w.heap.size, 3, none⟩ = some (.string S) := (hb_w6.cell (p := ⟨w.heap.size, 3, none⟩) zs).trans q3
  have q2 : w6.cell? ⟨w.heap.size, 2, none⟩ = some (.int .i64 M) := (hb_w6.cell (p := ⟨w.heap.size, 2, none⟩) zs).trans q2
  have q1 : w6.cell? ⟨w.heap.size, 1, none⟩ = some (.int .i64 N) := (hb_w6.cell (p := ⟨w.heap.size, 1, none⟩) zs).trans q1
  have B : Hid (Below w.heap.size w w6) := B.out.trans (hb_w6.mono (Nat.le_of_lt zs))
  have zs : w.heap.size < w6.heap.size := Nat.lt_of_lt_of_le zs hb_w6.size
  clear hb_w6
  go_wp2_with (go_at_call 22; refine (NN.out _ ?_ _).mono ?_; (first | exact hie | exact hif | exact hih | exact hi0 | exact hi4); rintro e w9 ⟨rfl, rfl⟩)
  go_ret
  exact ⟨rfl, B.out⟩

set_option maxRecDepth 100000 in
set_option maxHeartbeats 3200000 in
theorem safe_B4 (_v at1 n f N M : Int) (_ok : Bool) (S E : ByteArray) (kd : Int) (w : World) (HI : (∀ a, i64ok a → NumT a) ∧ i64ok 0 ∧ i64ok 4 ∧ i64ok f ∧ -1 ≤ N)
    (hv : Ans3 20 #[.string S, .int .i64 N] 1 at1 0) (hfz : (f == 0) = false) (hl : AnsB 23 #[.string S, .int .i64 N] true 0) (ht2 : Ans3 20 #[.string S, .int .i64 2520] 1 0 0) (hl2 : AnsB 23 #[.string S, .int .i64 (N + 1)] false 4) (hN20 : N ≤ 20)
    (HJ : i64ok 0 ∧ i64ok 0) (hd : Ans2 21 #[.string S, .int .i64 M] n f) :
    Calls Try.prog 16 #[.agg #[.int .i64 kd, .int .i64 N, .int .i64 M, .string S, .string E]] w fun e w' => e = .returned (.bool true) ∧ Below w.heap.size w w' := by
  obtain ⟨nn, hi0, hi4, hif, hN⟩ := HI
  obtain ⟨hie, hih⟩ := HJ
  have NN : Hid (∀ a, i64ok a → NumT a) := nn
  clear nn
  go_enter Try.func16, Try.ntmps16
  go_wp2_with (go_at_call 22; refine (NN.out _ ?_ _).mono ?_; (first | exact hie | exact hif | exact hih | exact hi0 | exact hi4); rintro e w9 ⟨rfl, rfl⟩)
  refine (hv _).mono ?_
  rintro e w1 ⟨rfl, hb_w1⟩
  obtain ⟨cc_w1, _⟩ := bcellL hb_w1
  have q3 : w1.cell? ⟨w.heap.size, 3, none⟩ = some (.string S) := by rw [cc_w1 _ _ (by simp)]; simp
  have q2 : w1.cell? ⟨w.heap.size, 2, none⟩ = some (.int .i64 M) := by rw [cc_w1 _ _ (by simp)]; simp
  have q1 : w1.cell? ⟨w.heap.size, 1, none⟩ = some (.int .i64 N) := by rw [cc_w1 _ _ (by simp)]; simp
  have zs : w.heap.size < w1.heap.size := by have := hb_w1.size; simp only [World.size_alloc] at this; omega
  have B : Hid (Below w.heap.size w w1) := ((Below.refl _ _).alloc (Nat.le_refl _) _).trans (hb_w1.mono (by simp))
  clear cc_w1 hb_w1
  go_wp2_with (go_at_call 22; refine (NN.out _ ?_ _).mono ?_; (first | exact hie | exact hif | exact hih | exact hi0 | exact hi4); rintro e w9 ⟨rfl, rfl⟩)
  refine (hd _).mono ?_
  rintro e w2 ⟨rfl, hb_w2⟩
  have q3 : w2.cell? ⟨w.heap.size, 3, none⟩ = some (.string S) := (hb_w2.cell (p := ⟨w.heap.size, 3, none⟩) zs).trans q3
  have q2 : w2.cell? ⟨w.heap.size, 2, none⟩ = some (.int .i64 M) := (hb_w2.cell (p := ⟨w.heap.size, 2, none⟩) zs).trans q2
  have q1 : w2.cell? ⟨w.heap.size, 1, none⟩ = some (.int .i64 N) := (hb_w2.cell (p := ⟨w.heap.size, 1, none⟩) zs).trans q1
  have B : Hid (Below w.heap.size w w2) := B.out.trans (hb_w2.mono (Nat.le_of_lt zs))
  have zs : w.heap.size < w2.heap.size := Nat.lt_of_lt_of_le zs hb_w2.size
  clear hb_w2
  go_wp2_with (go_at_call 22; refine (NN.out _ ?_ _).mono ?_; (first | exact hie | exact hif | exact hih | exact hi0 | exact hi4); rintro e w9 ⟨rfl, rfl⟩)
  refine (hl _).mono ?_
  rintro e w4 ⟨rfl, hb_w4⟩
  have q3 : w4.cell? ⟨w.heap.size, 3, none⟩ = some (.string S) := (hb_w4.cell (p := ⟨w.heap.size, 3, none⟩) zs).trans q3
  have q2 : w4.cell? ⟨w.heap.size, 2, none⟩ = some (.int .i64 M) := (hb_w4.cell (p := ⟨w.heap.size, 2, none⟩) zs).trans q2
  have q1 : w4.cell? ⟨w.heap.size, 1, none⟩ = some (.int .i64 N) := (hb_w4.cell (p := ⟨w.heap.size, 1, none⟩) zs).trans q1
  have B : Hid (Below w.heap.size w w4) := B.out.trans (hb_w4.mono (Nat.le_of_lt zs))
  have zs : w.heap.size < w4.heap.size := Nat.lt_of_lt_of_le zs hb_w4.size
  clear hb_w4
  go_wp2_with (go_at_call 22; refine (NN.out _ ?_ _).mono ?_; (first | exact hie | exact hif | exact hih | exact hi0 | exact hi4); rintro e w9 ⟨rfl, rfl⟩)
  refine (ht2 _).mono ?_
  rintro e w5 ⟨rfl, hb_w5⟩
  have q3 : w5.cell? ⟨w.heap.size, 3, none⟩ = some (.string S) := (hb_w5.cell (p := ⟨w.heap.size, 3, none⟩) zs).trans q3
  have q2 : w5.cell? ⟨w.heap.size, 2, none⟩ = some (.int .i64 M) := (hb_w5.cell (p := ⟨w.heap.size, 2, none⟩) zs).trans q2
  have q1 : w5.cell? ⟨w.heap.size, 1, none⟩ = some (.int .i64 N) := (hb_w5.cell (p := ⟨w.heap.size, 1, none⟩) zs).trans q1
  have B : Hid (Below w.heap.size w w5) := B.out.trans (hb_w5.mono (Nat.le_of_lt zs))
  have zs : w.heap.size < w5.heap.size := Nat.lt_of_lt_of_le zs hb_w5.size
  clear hb_w5
  go_wp2_with (go_at_call 22; refine (NN.out _ ?_ _).mono ?_; (first | exact hie | exact hif | exact hih | exact hi0 | exact hi4); rintro e w9 ⟨rfl, rfl⟩)
  refine (hl2 _).mono ?_
  rintro e w6 ⟨rfl, hb_w6⟩
  have q3 : w6.cell? ⟨w.heap.size, 3, none⟩ = some (.string S) := (hb_w6.cell (p := ⟨w.heap.size, 3, none⟩) zs).trans q3
  have q2 : w6.cell? ⟨w.heap.size, 2, none⟩ = some (.int .i64 M) := (hb_w6.cell (p := ⟨w.heap.size, 2, none⟩) zs).trans q2
  have q1 : w6.cell? ⟨w.heap.size, 1, none⟩ = some (.int .i64 N) := (hb_w6.cell (p := ⟨w.heap.size, 1, none⟩) zs).trans q1
  have B : Hid (Below w.heap.size w w6) := B.out.trans (hb_w6.mono (Nat.le_of_lt zs))
  have zs : w.heap.size < w6.heap.size := Nat.lt_of_lt_of_le zs hb_w6.size
  clear hb_w6
  go_wp2_with (go_at_call 22; refine (NN.out _ ?_ _).mono ?_; (first | exact hie | exact hif | exact hih | exact hi0 | exact hi4); rintro e w9 ⟨rfl, rfl⟩)
  go_ret
  exact ⟨rfl, B.out⟩

set_option maxRecDepth 100000 in
set_option maxHeartbeats 3200000 in
theorem safe_C1 (_v at1 n f N M : Int) (ok : Bool) (S E : ByteArray) (kd : Int) (w : World) (HI : (∀ a, i64ok a → NumT a) ∧ i64ok 0 ∧ i64ok 4 ∧ i64ok f ∧ -1 ≤ N)
    (hv : Ans3 20 #[.string S, .int .i64 N] 1 at1 0) (hf0 : f = 0) (hnM : n ≤ M) (h : Int) (hl : AnsB 23 #[.string S, .int .i64 N] ok h) (hh : (h != 0) = true)
    (HJ : i64ok 0 ∧ i64ok h) (hd : Ans2 21 #[.string S, .int .i64 M] n f) :
    Calls Try.prog 16 #[.agg #[.int .i64 kd, .int .i64 N, .int .i64 M, .string S, .string E]] w fun e w' => e = .returned (.bool true) ∧ Below w.heap.size w w' := by
  subst hf0
  obtain ⟨nn, hi0, hi4, hif, hN⟩ := HI
  obtain ⟨hie, hih⟩ := HJ
  have NN : Hid (∀ a, i64ok a → NumT a) := nn
  clear nn
  go_enter Try.func16, Try.ntmps16
  go_wp2_with (go_at_call 22; refine (NN.out _ ?_ _).mono ?_; (first | exact hie | exact hif | exact hih | exact hi0 | exact hi4); rintro e w9 ⟨rfl, rfl⟩)
  refine (hv _).mono ?_
  rintro e w1 ⟨rfl, hb_w1⟩
  obtain ⟨cc_w1, _⟩ := bcellL hb_w1
  have q3 : w1.cell? ⟨w.heap.size, 3, none⟩ = some (.string S) := by rw [cc_w1 _ _ (by simp)]; simp
  have q2 : w1.cell? ⟨w.heap.size, 2, none⟩ = some (.int .i64 M) := by rw [cc_w1 _ _ (by simp)]; simp
  have q1 : w1.cell? ⟨w.heap.size, 1, none⟩ = some (.int .i64 N) := by rw [cc_w1 _ _ (by simp)]; simp
  have zs : w.heap.size < w1.heap.size := by have := hb_w1.size; simp only [World.size_alloc] at this; omega
  have B : Hid (Below w.heap.size w w1) := ((Below.refl _ _).alloc (Nat.le_refl _) _).trans (hb_w1.mono (by simp))
  clear cc_w1 hb_w1
  go_wp2_with (go_at_call 22; refine (NN.out _ ?_ _).mono ?_; (first | exact hie | exact hif | exact hih | exact hi0 | exact hi4); rintro e w9 ⟨rfl, rfl⟩)
  refine (hd _).mono ?_
  rintro e w2 ⟨rfl, hb_w2⟩
  have q3 : w2.cell? ⟨w.heap.size, 3, none⟩ = some (.string S) := (hb_w2.cell (p := ⟨w.heap.size, 3, none⟩) zs).trans q3
  have q2 : w2.cell? ⟨w.heap.size, 2, none⟩ = some (.int .i64 M) := (hb_w2.cell (p := ⟨w.heap.size, 2, none⟩) zs).trans q2
  have q1 : w2.cell? ⟨w.heap.size, 1, none⟩ = some (.int .i64 N) := (hb_w2.cell (p := ⟨w.heap.size, 1, none⟩) zs).trans q1
  have B : Hid (Below w.heap.size w w2) := B.out.trans (hb_w2.mono (Nat.le_of_lt zs))
  have zs : w.heap.size < w2.heap.size := Nat.lt_of_lt_of_le zs hb_w2.size
  clear hb_w2
  go_wp2_with (go_at_call 22; refine (NN.out _ ?_ _).mono ?_; (first | exact hie | exact hif | exact hih | exact hi0 | exact hi4); rintro e w9 ⟨rfl, rfl⟩)
  refine (hl _).mono ?_
  rintro e w4 ⟨rfl, hb_w4⟩
  have q3 : w4.cell? ⟨w.heap.size, 3, none⟩ = some (.string S) := (hb_w4.cell (p := ⟨w.heap.size, 3, none⟩) zs).trans q3
  have q2 : w4.cell? ⟨w.heap.size, 2, none⟩ = some (.int .i64 M) := (hb_w4.cell (p := ⟨w.heap.size, 2, none⟩) zs).trans q2
  have q1 : w4.cell? ⟨w.heap.size, 1, none⟩ = some (.int .i64 N) := (hb_w4.cell (p := ⟨w.heap.size, 1, none⟩) zs).trans q1
  have B : Hid (Below w.heap.size w w4) := B.out.trans (hb_w4.mono (Nat.le_of_lt zs))
  have zs : w.heap.size < w4.heap.size := Nat.lt_of_lt_of_le zs hb_w4.size
  clear hb_w4
  go_wp2_with (go_at_call 22; refine (NN.out _ ?_ _).mono ?_; (first | exact hie | exact hif | exact hih | exact hi0 | exact hi4); rintro e w9 ⟨rfl, rfl⟩)
  go_ret
  exact ⟨rfl, B.out⟩

set_option maxRecDepth 100000 in
set_option maxHeartbeats 3200000 in
theorem safe_C2 (_v at1 n f N M : Int) (_ok : Bool) (S E : ByteArray) (kd : Int) (w : World) (HI : (∀ a, i64ok a → NumT a) ∧ i64ok 0 ∧ i64ok 4 ∧ i64ok f ∧ -1 ≤ N)
    (hv : Ans3 20 #[.string S, .int .i64 N] 1 at1 0) (hf0 : f = 0) (hnM : n ≤ M) (hl : AnsB 23 #[.string S, .int .i64 N] false 0)
    (HJ : i64ok 0 ∧ i64ok 0) (hd : Ans2 21 #[.string S, .int .i64 M] n f) :
    Calls Try.prog 16 #[.agg #[.int .i64 kd, .int .i64 N, .int .i64 M, .string S, .string E]] w fun e w' => e = .returned (.bool true) ∧ Below w.heap.size w w' := by
  subst hf0
  obtain ⟨nn, hi0, hi4, hif, hN⟩ := HI
  obtain ⟨hie, hih⟩ := HJ
  have NN : Hid (∀ a, i64ok a → NumT a) := nn
  clear nn
  go_enter Try.func16, Try.ntmps16
  go_wp2_with (go_at_call 22; refine (NN.out _ ?_ _).mono ?_; (first | exact hie | exact hif | exact hih | exact hi0 | exact hi4); rintro e w9 ⟨rfl, rfl⟩)
  refine (hv _).mono ?_
  rintro e w1 ⟨rfl, hb_w1⟩
  obtain ⟨cc_w1, _⟩ := bcellL hb_w1
  have q3 : w1.cell? ⟨w.heap.size, 3, none⟩ = some (.string S) := by rw [cc_w1 _ _ (by simp)]; simp
  have q2 : w1.cell? ⟨w.heap.size, 2, none⟩ = some (.int .i64 M) := by rw [cc_w1 _ _ (by simp)]; simp
  have q1 : w1.cell? ⟨w.heap.size, 1, none⟩ = some (.int .i64 N) := by rw [cc_w1 _ _ (by simp)]; simp
  have zs : w.heap.size < w1.heap.size := by have := hb_w1.size; simp only [World.size_alloc] at this; omega
  have B : Hid (Below w.heap.size w w1) := ((Below.refl _ _).alloc (Nat.le_refl _) _).trans (hb_w1.mono (by simp))
  clear cc_w1 hb_w1
  go_wp2_with (go_at_call 22; refine (NN.out _ ?_ _).mono ?_; (first | exact hie | exact hif | exact hih | exact hi0 | exact hi4); rintro e w9 ⟨rfl, rfl⟩)
  refine (hd _).mono ?_
  rintro e w2 ⟨rfl, hb_w2⟩
  have q3 : w2.cell? ⟨w.heap.size, 3, none⟩ = some (.string S) := (hb_w2.cell (p := ⟨w.heap.size, 3, none⟩) zs).trans q3
  have q2 : w2.cell? ⟨w.heap.size, 2, none⟩ = some (.int .i64 M) := (hb_w2.cell (p := ⟨w.heap.size, 2, none⟩) zs).trans q2
  have q1 : w2.cell? ⟨w.heap.size, 1, none⟩ = some (.int .i64 N) := (hb_w2.cell (p := ⟨w.heap.size, 1, none⟩) zs).trans q1
  have B : Hid (Below w.heap.size w w2) := B.out.trans (hb_w2.mono (Nat.le_of_lt zs))
  have zs : w.heap.size < w2.heap.size := Nat.lt_of_lt_of_le zs hb_w2.size
  clear hb_w2
  go_wp2_with (go_at_call 22; refine (NN.out _ ?_ _).mono ?_; (first | exact hie | exact hif | exact hih | exact hi0 | exact hi4); rintro e w9 ⟨rfl, rfl⟩)
  refine (hl _).mono ?_
  rintro e w4 ⟨rfl, hb_w4⟩
  have q3 : w4.cell? ⟨w.heap.size, 3, none⟩ = some (.string S) := (hb_w4.cell (p := ⟨w.heap.size, 3, none⟩) zs).trans q3
  have q2 : w4.cell? ⟨w.heap.size, 2, none⟩ = some (.int .i64 M) := (hb_w4.cell (p := ⟨w.heap.size, 2, none⟩) zs).trans q2
  have q1 : w4.cell? ⟨w.heap.size, 1, none⟩ = some (.int .i64 N) := (hb_w4.cell (p := ⟨w.heap.size, 1, none⟩) zs).trans q1
  have B : Hid (Below w.heap.size w w4) := B.out.trans (hb_w4.mono (Nat.le_of_lt zs))
  have zs : w.heap.size < w4.heap.size := Nat.lt_of_lt_of_le zs hb_w4.size
  clear hb_w4
  go_wp2_with (go_at_call 22; refine (NN.out _ ?_ _).mono ?_; (first | exact hie | exact hif | exact hih | exact hi0 | exact hi4); rintro e w9 ⟨rfl, rfl⟩)
  go_ret
  exact ⟨rfl, B.out⟩

set_option maxRecDepth 100000 in
set_option maxHeartbeats 3200000 in
theorem safe_C3 (_v at1 n f N M : Int) (_ok : Bool) (S E : ByteArray) (kd : Int) (w : World) (HI : (∀ a, i64ok a → NumT a) ∧ i64ok 0 ∧ i64ok 4 ∧ i64ok f ∧ -1 ≤ N)
    (hv : Ans3 20 #[.string S, .int .i64 N] 1 at1 0) (hf0 : f = 0) (hnM : n ≤ M) (hl : AnsB 23 #[.string S, .int .i64 N] true 0) (ht2 : Ans3 20 #[.string S, .int .i64 2520] 1 0 0) (hl2 : AnsB 23 #[.string S, .int .i64 (N + 1)] true 0) (hN20 : N ≤ 20)
    (HJ : i64ok 0 ∧ i64ok 0) (hd : Ans2 21 #[.string S, .int .i64 M] n f) :
    Calls Try.prog 16 #[.agg #[.int .i64 kd, .int .i64 N, .int .i64 M, .string S, .string E]] w fun e w' => e = .returned (.bool true) ∧ Below w.heap.size w w' := by
  subst hf0
  obtain ⟨nn, hi0, hi4, hif, hN⟩ := HI
  obtain ⟨hie, hih⟩ := HJ
  have NN : Hid (∀ a, i64ok a → NumT a) := nn
  clear nn
  go_enter Try.func16, Try.ntmps16
  go_wp2_with (go_at_call 22; refine (NN.out _ ?_ _).mono ?_; (first | exact hie | exact hif | exact hih | exact hi0 | exact hi4); rintro e w9 ⟨rfl, rfl⟩)
  refine (hv _).mono ?_
  rintro e w1 ⟨rfl, hb_w1⟩
  obtain ⟨cc_w1, _⟩ := bcellL hb_w1
  have q3 : w1.cell? ⟨w.heap.size, 3, none⟩ = some (.string S) := by rw [cc_w1 _ _ (by simp)]; simp
  have q2 : w1.cell? ⟨w.heap.size, 2, none⟩ = some (.int .i64 M) := by rw [cc_w1 _ _ (by simp)]; simp
  have q1 : w1.cell? ⟨w.heap.size, 1, none⟩ = some (.int .i64 N) := by rw [cc_w1 _ _ (by simp)]; simp
  have zs : w.heap.size < w1.heap.size := by have := hb_w1.size; simp only [World.size_alloc] at this; omega
  have B : Hid (Below w.heap.size w w1) := ((Below.refl _ _).alloc (Nat.le_refl _) _).trans (hb_w1.mono (by simp))
  clear cc_w1 hb_w1
  go_wp2_with (go_at_call 22; refine (NN.out _ ?_ _).mono ?_; (first | exact hie | exact hif | exact hih | exact hi0 | exact hi4); rintro e w9 ⟨rfl, rfl⟩)
  refine (hd _).mono ?_
  rintro e w2 ⟨rfl, hb_w2⟩
  have q3 : w2.cell? ⟨w.heap.size, 3, none⟩ = some (.string S) := (hb_w2.cell (p := ⟨w.heap.size, 3, none⟩) zs).trans q3
  have q2 : w2.cell? ⟨w.heap.size, 2, none⟩ = some (.int .i64 M) := (hb_w2.cell (p := ⟨w.heap.size, 2, none⟩) zs).trans q2
  have q1 : w2.cell? ⟨w.heap.size, 1, none⟩ = some (.int .i64 N) := (hb_w2.cell (p := ⟨w.heap.size, 1, none⟩) zs).trans q1
  have B : Hid (Below w.heap.size w w2) := B.out.trans (hb_w2.mono (Nat.le_of_lt zs))
  have zs : w.heap.size < w2.heap.size := Nat.lt_of_lt_of_le zs hb_w2.size
  clear hb_w2
  go_wp2_with (go_at_call 22; refine (NN.out _ ?_ _).mono ?_; (first | exact hie | exact hif | exact hih | exact hi0 | exact hi4); rintro e w9 ⟨rfl, rfl⟩)
  refine (hl _).mono ?_
  rintro e w4 ⟨rfl, hb_w4⟩
  have q3 : w4.cell? ⟨w.heap.size, 3, none⟩ = some (.string S) := (hb_w4.cell (p := ⟨w.heap.size, 3, none⟩) zs).trans q3
  have q2 : w4.cell? ⟨w.heap.size, 2, none⟩ = some (.int .i64 M) := (hb_w4.cell (p := ⟨w.heap.size, 2, none⟩) zs).trans q2
  have q1 : w4.cell? ⟨w.heap.size, 1, none⟩ = some (.int .i64 N) := (hb_w4.cell (p := ⟨w.heap.size, 1, none⟩) zs).trans q1
  have B : Hid (Below w.heap.size w w4) := B.out.trans (hb_w4.mono (Nat.le_of_lt zs))
  have zs : w.heap.size < w4.heap.size := Nat.lt_of_lt_of_le zs hb_w4.size
  clear hb_w4
  go_wp2_with (go_at_call 22; refine (NN.out _ ?_ _).mono ?_; (first | exact hie | exact hif | exact hih | exact hi0 | exact hi4); rintro e w9 ⟨rfl, rfl⟩)
  refine (ht2 _).mono ?_
  rintro e w5 ⟨rfl, hb_w5⟩
  have q3 : w5.cell? ⟨w.heap.size, 3, none⟩ = some (.string S) := (hb_w5.cell (p := ⟨w.heap.size, 3, none⟩) zs).trans q3
  have q2 : w5.cell? ⟨w.heap.size, 2, none⟩ = some (.int .i64 M) := (hb_w5.cell (p := ⟨w.heap.size, 2, none⟩) zs).trans q2
  have q1 : w5.cell? ⟨w.heap.size, 1, none⟩ = some (.int .i64 N) := (hb_w5.cell (p := ⟨w.heap.size, 1, none⟩) zs).trans q1
  have B : Hid (Below w.heap.size w w5) := B.out.trans (hb_w5.mono (Nat.le_of_lt zs))
  have zs : w.heap.size < w5.heap.size := Nat.lt_of_lt_of_le zs hb_w5.size
  clear hb_w5
  go_wp2_with (go_at_call 22; refine (NN.out _ ?_ _).mono ?_; (first | exact hie | exact hif | exact hih | exact hi0 | exact hi4); rintro e w9 ⟨rfl, rfl⟩)
  refine (hl2 _).mono ?_
  rintro e w6 ⟨rfl, hb_w6⟩
  have q3 : w6.cell? ⟨w.heap.size, 3, none⟩ = some (.string S) := (hb_w6.cell (p := ⟨w.heap.size, 3, none⟩) zs).trans q3
  have q2 : w6.cell? ⟨w.heap.size, 2, none⟩ = some (.int .i64 M) := (hb_w6.cell (p := ⟨w.heap.size, 2, none⟩) zs).trans q2
  have q1 : w6.cell? ⟨w.heap.size, 1, none⟩ = some (.int .i64 N) := (hb_w6.cell (p := ⟨w.heap.size, 1, none⟩) zs).trans q1
  have B : Hid (Below w.heap.size w w6) := B.out.trans (hb_w6.mono (Nat.le_of_lt zs))
  have zs : w.heap.size < w6.heap.size := Nat.lt_of_lt_of_le zs hb_w6.size
  clear hb_w6
  go_wp2_with (go_at_call 22; refine (NN.out _ ?_ _).mono ?_; (first | exact hie | exact hif | exact hih | exact hi0 | exact hi4); rintro e w9 ⟨rfl, rfl⟩)
  go_ret
  exact ⟨rfl, B.out⟩

set_option maxRecDepth 100000 in
set_option maxHeartbeats 3200000 in
theorem safe_C4 (_v at1 n f N M : Int) (_ok : Bool) (S E : ByteArray) (kd : Int) (w : World) (HI : (∀ a, i64ok a → NumT a) ∧ i64ok 0 ∧ i64ok 4 ∧ i64ok f ∧ -1 ≤ N)
    (hv : Ans3 20 #[.string S, .int .i64 N] 1 at1 0) (hf0 : f = 0) (hnM : n ≤ M) (hl : AnsB 23 #[.string S, .int .i64 N] true 0) (ht2 : Ans3 20 #[.string S, .int .i64 2520] 1 0 0) (hl2 : AnsB 23 #[.string S, .int .i64 (N + 1)] false 4) (hN20 : N ≤ 20)
    (HJ : i64ok 0 ∧ i64ok 0) (hd : Ans2 21 #[.string S, .int .i64 M] n f) :
    Calls Try.prog 16 #[.agg #[.int .i64 kd, .int .i64 N, .int .i64 M, .string S, .string E]] w fun e w' => e = .returned (.bool true) ∧ Below w.heap.size w w' := by
  subst hf0
  obtain ⟨nn, hi0, hi4, hif, hN⟩ := HI
  obtain ⟨hie, hih⟩ := HJ
  have NN : Hid (∀ a, i64ok a → NumT a) := nn
  clear nn
  go_enter Try.func16, Try.ntmps16
  go_wp2_with (go_at_call 22; refine (NN.out _ ?_ _).mono ?_; (first | exact hie | exact hif | exact hih | exact hi0 | exact hi4); rintro e w9 ⟨rfl, rfl⟩)
  refine (hv _).mono ?_
  rintro e w1 ⟨rfl, hb_w1⟩
  obtain ⟨cc_w1, _⟩ := bcellL hb_w1
  have q3 : w1.cell? ⟨w.heap.size, 3, none⟩ = some (.string S) := by rw [cc_w1 _ _ (by simp)]; simp
  have q2 : w1.cell? ⟨w.heap.size, 2, none⟩ = some (.int .i64 M) := by rw [cc_w1 _ _ (by simp)]; simp
  have q1 : w1.cell? ⟨w.heap.size, 1, none⟩ = some (.int .i64 N) := by rw [cc_w1 _ _ (by simp)]; simp
  have zs : w.heap.size < w1.heap.size := by have := hb_w1.size; simp only [World.size_alloc] at this; omega
  have B : Hid (Below w.heap.size w w1) := ((Below.refl _ _).alloc (Nat.le_refl _) _).trans (hb_w1.mono (by simp))
  clear cc_w1 hb_w1
  go_wp2_with (go_at_call 22; refine (NN.out _ ?_ _).mono ?_; (first | exact hie | exact hif | exact hih | exact hi0 | exact hi4); rintro e w9 ⟨rfl, rfl⟩)
  refine (hd _).mono ?_
  rintro e w2 ⟨rfl, hb_w2⟩
  have q3 : w2.cell? ⟨w.heap.size, 3, none⟩ = some (.string S) := (hb_w2.cell (p := ⟨w.heap.size, 3, none⟩) zs).trans q3
  have q2 : w2.cell? ⟨w.heap.size, 2, none⟩ = some (.int .i64 M) := (hb_w2.cell (p := ⟨w.heap.size, 2, none⟩) zs).trans q2
  have q1 : w2.cell? ⟨w.heap.size, 1, none⟩ = some (.int .i64 N) := (hb_w2.cell (p := ⟨w.heap.size, 1, none⟩) zs).trans q1
  have B : Hid (Below w.heap.size w w2) := B.out.trans (hb_w2.mono (Nat.le_of_lt zs))
  have zs : w.heap.size < w2.heap.size := Nat.lt_of_lt_of_le zs hb_w2.size
  clear hb_w2
  go_wp2_with (go_at_call 22; refine (NN.out _ ?_ _).mono ?_; (first | exact hie | exact hif | exact hih | exact hi0 | exact hi4); rintro e w9 ⟨rfl, rfl⟩)
  refine (hl _).mono ?_
  rintro e w4 ⟨rfl, hb_w4⟩
  have q3 : w4.cell? ⟨w.heap.size, 3, none⟩ = some (.string S) := (hb_w4.cell (p := ⟨w.heap.size, 3, none⟩) zs).trans q3
  have q2 : w4.cell? ⟨w.heap.size, 2, none⟩ = some (.int .i64 M) := (hb_w4.cell (p := ⟨w.heap.size, 2, none⟩) zs).trans q2
  have q1 : w4.cell? ⟨w.heap.size, 1, none⟩ = some (.int .i64 N) := (hb_w4.cell (p := ⟨w.heap.size, 1, none⟩) zs).trans q1
  have B : Hid (Below w.heap.size w w4) := B.out.trans (hb_w4.mono (Nat.le_of_lt zs))
  have zs : w.heap.size < w4.heap.size := Nat.lt_of_lt_of_le zs hb_w4.size
  clear hb_w4
  go_wp2_with (go_at_call 22; refine (NN.out _ ?_ _).mono ?_; (first | exact hie | exact hif | exact hih | exact hi0 | exact hi4); rintro e w9 ⟨rfl, rfl⟩)
  refine (ht2 _).mono ?_
  rintro e w5 ⟨rfl, hb_w5⟩
  have q3 : w5.cell? ⟨w.heap.size, 3, none⟩ = some (.string S) := (hb_w5.cell (p := ⟨w.heap.size, 3, none⟩) zs).trans q3
  have q2 : w5.cell? ⟨w.heap.size, 2, none⟩ = some (.int .i64 M) := (hb_w5.cell (p := ⟨w.heap.size, 2, none⟩) zs).trans q2
  have q1 : w5.cell? ⟨w.heap.size, 1, none⟩ = some (.int .i64 N) := (hb_w5.cell (p := ⟨w.heap.size, 1, none⟩) zs).trans q1
  have B : Hid (Below w.heap.size w w5) := B.out.trans (hb_w5.mono (Nat.le_of_lt zs))
  have zs : w.heap.size < w5.heap.size := Nat.lt_of_lt_of_le zs hb_w5.size
  clear hb_w5
  go_wp2_with (go_at_call 22; refine (NN.out _ ?_ _).mono ?_; (first | exact hie | exact hif | exact hih | exact hi0 | exact hi4); rintro e w9 ⟨rfl, rfl⟩)
  refine (hl2 _).mono ?_
  rintro e w6 ⟨rfl, hb_w6⟩
  have q3 : w6.cell? ⟨w.heap.size, 3, none⟩ = some (.string S) := (hb_w6.cell (p := ⟨w.heap.size, 3, none⟩) zs).trans q3
  have q2 : w6.cell? ⟨w.heap.size, 2, none⟩ = some (.int .i64 M) := (hb_w6.cell (p := ⟨w.heap.size, 2, none⟩) zs).trans q2
  have q1 : w6.cell? ⟨w.heap.size, 1, none⟩ = some (.int .i64 N) := (hb_w6.cell (p := ⟨w.heap.size, 1, none⟩) zs).trans q1
  have B : Hid (Below w.heap.size w w6) := B.out.trans (hb_w6.mono (Nat.le_of_lt zs))
  have zs : w.heap.size < w6.heap.size := Nat.lt_of_lt_of_le zs hb_w6.size
  clear hb_w6
  go_wp2_with (go_at_call 22; refine (NN.out _ ?_ _).mono ?_; (first | exact hie | exact hif | exact hih | exact hi0 | exact hi4); rintro e w9 ⟨rfl, rfl⟩)
  go_ret
  exact ⟨rfl, B.out⟩

set_option maxRecDepth 100000 in
set_option maxHeartbeats 3200000 in
theorem safe_D1 (_v _at1 n f N M : Int) (ok : Bool) (S E : ByteArray) (kd : Int) (w : World) (HI : (∀ a, i64ok a → NumT a) ∧ i64ok 0 ∧ i64ok 4 ∧ i64ok f ∧ -1 ≤ N)
    (hv : Ans3 20 #[.string S, .int .i64 N] 2 0 0) (h : Int) (hl : AnsB 23 #[.string S, .int .i64 N] ok h) (hh : (h != 0) = true)
    (HJ : i64ok 0 ∧ i64ok h) (hd : Ans2 21 #[.string S, .int .i64 M] n f) :
    Calls Try.prog 16 #[.agg #[.int .i64 kd, .int .i64 N, .int .i64 M, .string S, .string E]] w fun e w' => e = .returned (.bool true) ∧ Below w.heap.size w w' := by
  obtain ⟨nn, hi0, hi4, hif, hN⟩ := HI
  obtain ⟨hie, hih⟩ := HJ
  have NN : Hid (∀ a, i64ok a → NumT a) := nn
  clear nn
  go_enter Try.func16, Try.ntmps16
  go_wp2_with (go_at_call 22; refine (NN.out _ ?_ _).mono ?_; (first | exact hie | exact hif | exact hih | exact hi0 | exact hi4); rintro e w9 ⟨rfl, rfl⟩)
  refine (hv _).mono ?_
  rintro e w1 ⟨rfl, hb_w1⟩
  obtain ⟨cc_w1, _⟩ := bcellL hb_w1
  have q3 : w1.cell? ⟨w.heap.size, 3, none⟩ = some (.string S) := by rw [cc_w1 _ _ (by simp)]; simp
  have q2 : w1.cell? ⟨w.heap.size, 2, none⟩ = some (.int .i64 M) := by rw [cc_w1 _ _ (by simp)]; simp
  have q1 : w1.cell? ⟨w.heap.size, 1, none⟩ = some (.int .i64 N) := by rw [cc_w1 _ _ (by simp)]; simp
  have zs : w.heap.size < w1.heap.size := by have := hb_w1.size; simp only [World.size_alloc] at this; omega
  have B : Hid (Below w.heap.size w w1) := ((Below.refl _ _).alloc (Nat.le_refl _) _).trans (hb_w1.mono (by simp))
  clear cc_w1 hb_w1
  go_wp2_with (go_at_call 22; refine (NN.out _ ?_ _).mono ?_; (first | exact hie | exact hif | exact hih | exact hi0 | exact hi4); rintro e w9 ⟨rfl, rfl⟩)
  refine (hd _).mono ?_
  rintro e w2 ⟨rfl, hb_w2⟩
  have q3 : w2.cell? ⟨w.heap.size, 3, none⟩ = some (.string S) := (hb_w2.cell (p := ⟨w.heap.size, 3, none⟩) zs).trans q3
  have q2 : w2.cell? ⟨w.heap.size, 2, none⟩ = some (.int .i64 M) := (hb_w2.cell (p := ⟨w.heap.size, 2, none⟩) zs).trans q2
  have q1 : w2.cell? ⟨w.heap.size, 1, none⟩ = some (.int .i64 N) := (hb_w2.cell (p := ⟨w.heap.size, 1, none⟩) zs).trans q1
  have B : Hid (Below w.heap.size w w2) := B.out.trans (hb_w2.mono (Nat.le_of_lt zs))
  have zs : w.heap.size < w2.heap.size := Nat.lt_of_lt_of_le zs hb_w2.size
  clear hb_w2
  go_wp2_with (go_at_call 22; refine (NN.out _ ?_ _).mono ?_; (first | exact hie | exact hif | exact hih | exact hi0 | exact hi4); rintro e w9 ⟨rfl, rfl⟩)
  refine (hl _).mono ?_
  rintro e w4 ⟨rfl, hb_w4⟩
  have q3 : w4.cell? ⟨w.heap.size, 3, none⟩ = some (.string S) := (hb_w4.cell (p := ⟨w.heap.size, 3, none⟩) zs).trans q3
  have q2 : w4.cell? ⟨w.heap.size, 2, none⟩ = some (.int .i64 M) := (hb_w4.cell (p := ⟨w.heap.size, 2, none⟩) zs).trans q2
  have q1 : w4.cell? ⟨w.heap.size, 1, none⟩ = some (.int .i64 N) := (hb_w4.cell (p := ⟨w.heap.size, 1, none⟩) zs).trans q1
  have B : Hid (Below w.heap.size w w4) := B.out.trans (hb_w4.mono (Nat.le_of_lt zs))
  have zs : w.heap.size < w4.heap.size := Nat.lt_of_lt_of_le zs hb_w4.size
  clear hb_w4
  go_wp2_with (go_at_call 22; refine (NN.out _ ?_ _).mono ?_; (first | exact hie | exact hif | exact hih | exact hi0 | exact hi4); rintro e w9 ⟨rfl, rfl⟩)
  go_ret
  exact ⟨rfl, B.out⟩

set_option maxRecDepth 100000 in
set_option maxHeartbeats 3200000 in
theorem safe_D2 (_v _at1 n f N M : Int) (_ok : Bool) (S E : ByteArray) (kd : Int) (w : World) (HI : (∀ a, i64ok a → NumT a) ∧ i64ok 0 ∧ i64ok 4 ∧ i64ok f ∧ -1 ≤ N)
    (hv : Ans3 20 #[.string S, .int .i64 N] 2 0 0) (hl : AnsB 23 #[.string S, .int .i64 N] false 0)
    (HJ : i64ok 0 ∧ i64ok 0) (hd : Ans2 21 #[.string S, .int .i64 M] n f) :
    Calls Try.prog 16 #[.agg #[.int .i64 kd, .int .i64 N, .int .i64 M, .string S, .string E]] w fun e w' => e = .returned (.bool true) ∧ Below w.heap.size w w' := by
  obtain ⟨nn, hi0, hi4, hif, hN⟩ := HI
  obtain ⟨hie, hih⟩ := HJ
  have NN : Hid (∀ a, i64ok a → NumT a) := nn
  clear nn
  go_enter Try.func16, Try.ntmps16
  go_wp2_with (go_at_call 22; refine (NN.out _ ?_ _).mono ?_; (first | exact hie | exact hif | exact hih | exact hi0 | exact hi4); rintro e w9 ⟨rfl, rfl⟩)
  refine (hv _).mono ?_
  rintro e w1 ⟨rfl, hb_w1⟩
  obtain ⟨cc_w1, _⟩ := bcellL hb_w1
  have q3 : w1.cell? ⟨w.heap.size, 3, none⟩ = some (.string S) := by rw [cc_w1 _ _ (by simp)]; simp
  have q2 : w1.cell? ⟨w.heap.size, 2, none⟩ = some (.int .i64 M) := by rw [cc_w1 _ _ (by simp)]; simp
  have q1 : w1.cell? ⟨w.heap.size, 1, none⟩ = some (.int .i64 N) := by rw [cc_w1 _ _ (by simp)]; simp
  have zs : w.heap.size < w1.heap.size := by have := hb_w1.size; simp only [World.size_alloc] at this; omega
  have B : Hid (Below w.heap.size w w1) := ((Below.refl _ _).alloc (Nat.le_refl _) _).trans (hb_w1.mono (by simp))
  clear cc_w1 hb_w1
  go_wp2_with (go_at_call 22; refine (NN.out _ ?_ _).mono ?_; (first | exact hie | exact hif | exact hih | exact hi0 | exact hi4); rintro e w9 ⟨rfl, rfl⟩)
  refine (hd _).mono ?_
  rintro e w2 ⟨rfl, hb_w2⟩
  have q3 : w2.cell? ⟨w.heap.size, 3, none⟩ = some (.string S) := (hb_w2.cell (p := ⟨w.heap.size, 3, none⟩) zs).trans q3
  have q2 : w2.cell? ⟨w.heap.size, 2, none⟩ = some (.int .i64 M) := (hb_w2.cell (p := ⟨w.heap.size, 2, none⟩) zs).trans q2
  have q1 : w2.cell? ⟨w.heap.size, 1, none⟩ = some (.int .i64 N) := (hb_w2.cell (p := ⟨w.heap.size, 1, none⟩) zs).trans q1
  have B : Hid (Below w.heap.size w w2) := B.out.trans (hb_w2.mono (Nat.le_of_lt zs))
  have zs : w.heap.size < w2.heap.size := Nat.lt_of_lt_of_le zs hb_w2.size
  clear hb_w2
  go_wp2_with (go_at_call 22; refine (NN.out _ ?_ _).mono ?_; (first | exact hie | exact hif | exact hih | exact hi0 | exact hi4); rintro e w9 ⟨rfl, rfl⟩)
  refine (hl _).mono ?_
  rintro e w4 ⟨rfl, hb_w4⟩
  have q3 : w4.cell? ⟨w.heap.size, 3, none⟩ = some (.string S) := (hb_w4.cell (p := ⟨w.heap.size, 3, none⟩) zs).trans q3
  have q2 : w4.cell? ⟨w.heap.size, 2, none⟩ = some (.int .i64 M) := (hb_w4.cell (p := ⟨w.heap.size, 2, none⟩) zs).trans q2
  have q1 : w4.cell? ⟨w.heap.size, 1, none⟩ = some (.int .i64 N) := (hb_w4.cell (p := ⟨w.heap.size, 1, none⟩) zs).trans q1
  have B : Hid (Below w.heap.size w w4) := B.out.trans (hb_w4.mono (Nat.le_of_lt zs))
  have zs : w.heap.size < w4.heap.size := Nat.lt_of_lt_of_le zs hb_w4.size
  clear hb_w4
  go_wp2_with (go_at_call 22; refine (NN.out _ ?_ _).mono ?_; (first | exact hie | exact hif | exact hih | exact hi0 | exact hi4); rintro e w9 ⟨rfl, rfl⟩)
  go_ret
  exact ⟨rfl, B.out⟩

set_option maxRecDepth 100000 in
set_option maxHeartbeats 3200000 in
theorem safe_D3 (_v _at1 n f N M : Int) (_ok : Bool) (S E : ByteArray) (kd : Int) (w : World) (HI : (∀ a, i64ok a → NumT a) ∧ i64ok 0 ∧ i64ok 4 ∧ i64ok f ∧ -1 ≤ N)
    (hv : Ans3 20 #[.string S, .int .i64 N] 2 0 0) (hl : AnsB 23 #[.string S, .int .i64 N] true 0) (ht2 : Ans3 20 #[.string S, .int .i64 2520] 1 0 0) (hl2 : AnsB 23 #[.string S, .int .i64 (N + 1)] true 0) (hN20 : N ≤ 20)
    (HJ : i64ok 0 ∧ i64ok 0) (hd : Ans2 21 #[.string S, .int .i64 M] n f) :
    Calls Try.prog 16 #[.agg #[.int .i64 kd, .int .i64 N, .int .i64 M, .string S, .string E]] w fun e w' => e = .returned (.bool true) ∧ Below w.heap.size w w' := by
  obtain ⟨nn, hi0, hi4, hif, hN⟩ := HI
  obtain ⟨hie, hih⟩ := HJ
  have NN : Hid (∀ a, i64ok a → NumT a) := nn
  clear nn
  go_enter Try.func16, Try.ntmps16
  go_wp2_with (go_at_call 22; refine (NN.out _ ?_ _).mono ?_; (first | exact hie | exact hif | exact hih | exact hi0 | exact hi4); rintro e w9 ⟨rfl, rfl⟩)
  refine (hv _).mono ?_
  rintro e w1 ⟨rfl, hb_w1⟩
  obtain ⟨cc_w1, _⟩ := bcellL hb_w1
  have q3 : w1.cell? ⟨w.heap.size, 3, none⟩ = some (.string S) := by rw [cc_w1 _ _ (by simp)]; simp
  have q2 : w1.cell? ⟨w.heap.size, 2, none⟩ = some (.int .i64 M) := by rw [cc_w1 _ _ (by simp)]; simp
  have q1 : w1.cell? ⟨w.heap.size, 1, none⟩ = some (.int .i64 N) := by rw [cc_w1 _ _ (by simp)]; simp
  have zs : w.heap.size < w1.heap.size := by have := hb_w1.size; simp only [World.size_alloc] at this; omega
  have B : Hid (Below w.heap.size w w1) := ((Below.refl _ _).alloc (Nat.le_refl _) _).trans (hb_w1.mono (by simp))
  clear cc_w1 hb_w1
  go_wp2_with (go_at_call 22; refine (NN.out _ ?_ _).mono ?_; (first | exact hie | exact hif | exact hih | exact hi0 | exact hi4); rintro e w9 ⟨rfl, rfl⟩)
  refine (hd _).mono ?_
  rintro e w2 ⟨rfl, hb_w2⟩
  have q3 : w2.cell? ⟨w.heap.size, 3, none⟩ = some (.string S) := (hb_w2.cell (p := ⟨w.heap.size, 3, none⟩) zs).trans q3
  have q2 : w2.cell? ⟨w.heap.size, 2, none⟩ = some (.int .i64 M) := (hb_w2.cell (p := ⟨w.heap.size, 2, none⟩) zs).trans q2
  have q1 : w2.cell? ⟨w.heap.size, 1, none⟩ = some (.int .i64 N) := (hb_w2.cell (p := ⟨w.heap.size, 1, none⟩) zs).trans q1
  have B : Hid (Below w.heap.size w w2) := B.out.trans (hb_w2.mono (Nat.le_of_lt zs))
  have zs : w.heap.size < w2.heap.size := Nat.lt_of_lt_of_le zs hb_w2.size
  clear hb_w2
  go_wp2_with (go_at_call 22; refine (NN.out _ ?_ _).mono ?_; (first | exact hie | exact hif | exact hih | exact hi0 | exact hi4); rintro e w9 ⟨rfl, rfl⟩)
  refine (hl _).mono ?_
  rintro e w4 ⟨rfl, hb_w4⟩
  have q3 : w4.cell? ⟨w.heap.size, 3, none⟩ = some (.string S) := (hb_w4.cell (p := ⟨w.heap.size, 3, none⟩) zs).trans q3
  have q2 : w4.cell? ⟨w.heap.size, 2, none⟩ = some (.int .i64 M) := (hb_w4.cell (p := ⟨w.heap.size, 2, none⟩) zs).trans q2
  have q1 : w4.cell? ⟨w.heap.size, 1, none⟩ = some (.int .i64 N) := (hb_w4.cell (p := ⟨w.heap.size, 1, none⟩) zs).trans q1
  have B : Hid (Below w.heap.size w w4) := B.out.trans (hb_w4.mono (Nat.le_of_lt zs))
  have zs : w.heap.size < w4.heap.size := Nat.lt_of_lt_of_le zs hb_w4.size
  clear hb_w4
  go_wp2_with (go_at_call 22; refine (NN.out _ ?_ _).mono ?_; (first | exact hie | exact hif | exact hih | exact hi0 | exact hi4); rintro e w9 ⟨rfl, rfl⟩)
  refine (ht2 _).mono ?_
  rintro e w5 ⟨rfl, hb_w5⟩
  have q3 : w5.cell? ⟨w.heap.size, 3, none⟩ = some (.string S) := (hb_w5.cell (p := ⟨w.heap.size, 3, none⟩) zs).trans q3
  have q2 : w5.cell? ⟨w.heap.size, 2, none⟩ = some (.int .i64 M) := (hb_w5.cell (p := ⟨w.heap.size, 2, none⟩) zs).trans q2
  have q1 : w5.cell? ⟨w.heap.size, 1, none⟩ = some (.int .i64 N) := (hb_w5.cell (p := ⟨w.heap.size, 1, none⟩) zs).trans q1
  have B : Hid (Below w.heap.size w w5) := B.out.trans (hb_w5.mono (Nat.le_of_lt zs))
  have zs : w.heap.size < w5.heap.size := Nat.lt_of_lt_of_le zs hb_w5.size
  clear hb_w5
  go_wp2_with (go_at_call 22; refine (NN.out _ ?_ _).mono ?_; (first | exact hie | exact hif | exact hih | exact hi0 | exact hi4); rintro e w9 ⟨rfl, rfl⟩)
  refine (hl2 _).mono ?_
  rintro e w6 ⟨rfl, hb_w6⟩
  have q3 : w6.cell? ⟨w.heap.size, 3, none⟩ = some (.string S) := (hb_w6.cell (p := ⟨w.heap.size, 3, none⟩) zs).trans q3
  have q2 : w6.cell? ⟨w.heap.size, 2, none⟩ = some (.int .i64 M) := (hb_w6.cell (p := ⟨w.heap.size, 2, none⟩) zs).trans q2
  have q1 : w6.cell? ⟨w.heap.size, 1, none⟩ = some (.int .i64 N) := (hb_w6.cell (p := ⟨w.heap.size, 1, none⟩) zs).trans q1
  have B : Hid (Below w.heap.size w w6) := B.out.trans (hb_w6.mono (Nat.le_of_lt zs))
  have zs : w.heap.size < w6.heap.size := Nat.lt_of_lt_of_le zs hb_w6.size
  clear hb_w6
  go_wp2_with (go_at_call 22; refine (NN.out _ ?_ _).mono ?_; (first | exact hie | exact hif | exact hih | exact hi0 | exact hi4); rintro e w9 ⟨rfl, rfl⟩)
  go_ret
  exact ⟨rfl, B.out⟩

set_option maxRecDepth 100000 in
set_option maxHeartbeats 3200000 in
theorem safe_D4 (_v _at1 n f N M : Int) (_ok : Bool) (S E : ByteArray) (kd : Int) (w : World) (HI : (∀ a, i64ok a → NumT a) ∧ i64ok 0 ∧ i64ok 4 ∧ i64ok f ∧ -1 ≤ N)
    (hv : Ans3 20 #[.string S, .int .i64 N] 2 0 0) (hl : AnsB 23 #[.string S, .int .i64 N] true 0) (ht2 : Ans3 20 #[.string S, .int .i64 2520] 1 0 0) (hl2 : AnsB 23 #[.string S, .int .i64 (N + 1)] false 4) (hN20 : N ≤ 20)
    (HJ : i64ok 0 ∧ i64ok 0) (hd : Ans2 21 #[.string S, .int .i64 M] n f) :
    Calls Try.prog 16 #[.agg #[.int .i64 kd, .int .i64 N, .int .i64 M, .string S, .string E]] w fun e w' => e = .returned (.bool true) ∧ Below w.heap.size w w' := by
  obtain ⟨nn, hi0, hi4, hif, hN⟩ := HI
  obtain ⟨hie, hih⟩ := HJ
  have NN : Hid (∀ a, i64ok a → NumT a) := nn
  clear nn
  go_enter Try.func16, Try.ntmps16
  go_wp2_with (go_at_call 22; refine (NN.out _ ?_ _).mono ?_; (first | exact hie | exact hif | exact hih | exact hi0 | exact hi4); rintro e w9 ⟨rfl, rfl⟩)
  refine (hv _).mono ?_
  rintro e w1 ⟨rfl, hb_w1⟩
  obtain ⟨cc_w1, _⟩ := bcellL hb_w1
  have q3 : w1.cell? ⟨w.heap.size, 3, none⟩ = some (.string S) := by rw [cc_w1 _ _ (by simp)]; simp
  have q2 : w1.cell? ⟨w.heap.size, 2, none⟩ = some (.int .i64 M) := by rw [cc_w1 _ _ (by simp)]; simp
  have q1 : w1.cell? ⟨w.heap.size, 1, none⟩ = some (.int .i64 N) := by rw [cc_w1 _ _ (by simp)]; simp
  have zs : w.heap.size < w1.heap.size := by have := hb_w1.size; simp only [World.size_alloc] at this; omega
  have B : Hid (Below w.heap.size w w1) := ((Below.refl _ _).alloc (Nat.le_refl _) _).trans (hb_w1.mono (by simp))
  clear cc_w1 hb_w1
  go_wp2_with (go_at_call 22; refine (NN.out _ ?_ _).mono ?_; (first | exact hie | exact hif | exact hih | exact hi0 | exact hi4); rintro e w9 ⟨rfl, rfl⟩)
  refine (hd _).mono ?_
  rintro e w2 ⟨rfl, hb_w2⟩
  have q3 : w2.cell? ⟨w.heap.size, 3, none⟩ = some (.string S) := (hb_w2.cell (p := ⟨w.heap.size, 3, none⟩) zs).trans q3
  have q2 : w2.cell? ⟨w.heap.size, 2, none⟩ = some (.int .i64 M) := (hb_w2.cell (p := ⟨w.heap.size, 2, none⟩) zs).trans q2
  have q1 : w2.cell? ⟨w.heap.size, 1, none⟩ = some (.int .i64 N) := (hb_w2.cell (p := ⟨w.heap.size, 1, none⟩) zs).trans q1
  have B : Hid (Below w.heap.size w w2) := B.out.trans (hb_w2.mono (Nat.le_of_lt zs))
  have zs : w.heap.size < w2.heap.size := Nat.lt_of_lt_of_le zs hb_w2.size
  clear hb_w2
  go_wp2_with (go_at_call 22; refine (NN.out _ ?_ _).mono ?_; (first | exact hie | exact hif | exact hih | exact hi0 | exact hi4); rintro e w9 ⟨rfl, rfl⟩)
  refine (hl _).mono ?_
  rintro e w4 ⟨rfl, hb_w4⟩
  have q3 : w4.cell? ⟨w.heap.size, 3, none⟩ = some (.string S) := (hb_w4.cell (p := ⟨w.heap.size, 3, none⟩) zs).trans q3
  have q2 : w4.cell? ⟨w.heap.size, 2, none⟩ = some (.int .i64 M) := (hb_w4.cell (p := ⟨w.heap.size, 2, none⟩) zs).trans q2
  have q1 : w4.cell? ⟨w.heap.size, 1, none⟩ = some (.int .i64 N) := (hb_w4.cell (p := ⟨w.heap.size, 1, none⟩) zs).trans q1
  have B : Hid (Below w.heap.size w w4) := B.out.trans (hb_w4.mono (Nat.le_of_lt zs))
  have zs : w.heap.size < w4.heap.size := Nat.lt_of_lt_of_le zs hb_w4.size
  clear hb_w4
  go_wp2_with (go_at_call 22; refine (NN.out _ ?_ _).mono ?_; (first | exact hie | exact hif | exact hih | exact hi0 | exact hi4); rintro e w9 ⟨rfl, rfl⟩)
  refine (ht2 _).mono ?_
  rintro e w5 ⟨rfl, hb_w5⟩
  have q3 : w5.cell? ⟨w.heap.size, 3, none⟩ = some (.string S) := (hb_w5.cell (p := ⟨w.heap.size, 3, none⟩) zs).trans q3
  have q2 : w5.cell? ⟨w.heap.size, 2, none⟩ = some (.int .i64 M) := (hb_w5.cell (p := ⟨w.heap.size, 2, none⟩) zs).trans q2
  have q1 : w5.cell? ⟨w.heap.size, 1, none⟩ = some (.int .i64 N) := (hb_w5.cell (p := ⟨w.heap.size, 1, none⟩) zs).trans q1
  have B : Hid (Below w.heap.size w w5) := B.out.trans (hb_w5.mono (Nat.le_of_lt zs))
  have zs : w.heap.size < w5.heap.size := Nat.lt_of_lt_of_le zs hb_w5.size
  clear hb_w5
  go_wp2_with (go_at_call 22; refine (NN.out _ ?_ _).mono ?_; (first | exact hie | exact hif | exact hih | exact hi0 | exact hi4); rintro e w9 ⟨rfl, rfl⟩)
  refine (hl2 _).mono ?_
  rintro e w6 ⟨rfl, hb_w6⟩
  have q3 : w6.cell? ⟨w.heap.size, 3, none⟩ = some (.string S) := (hb_w6.cell (p := ⟨w.heap.size, 3, none⟩) zs).trans q3
  have q2 : w6.cell? ⟨w.heap.size, 2, none⟩ = some (.int .i64 M) := (hb_w6.cell (p := ⟨w.heap.size, 2, none⟩) zs).trans q2
  have q1 : w6.cell? ⟨w.heap.size, 1, none⟩ = some (.int .i64 N) := (hb_w6.cell (p := ⟨w.heap.size, 1, none⟩) zs).trans q1
  have B : Hid (Below w.heap.size w w6) := B.out.trans (hb_w6.mono (Nat.le_of_lt zs))
  have zs : w.heap.size < w6.heap.size := Nat.lt_of_lt_of_le zs hb_w6.size
  clear hb_w6
  go_wp2_with (go_at_call 22; refine (NN.out _ ?_ _).mono ?_; (first | exact hie | exact hif | exact hih | exact hi0 | exact hi4); rintro e w9 ⟨rfl, rfl⟩)
  go_ret
  exact ⟨rfl, B.out⟩

set_option maxRecDepth 100000 in
set_option maxHeartbeats 3200000 in
theorem safe_E1 (_v at1 n f N M : Int) (ok : Bool) (S E : ByteArray) (kd : Int) (w : World) (HI : (∀ a, i64ok a → NumT a) ∧ i64ok 0 ∧ i64ok 4 ∧ i64ok f ∧ -1 ≤ N)
    (k : Int) (hv : Ans3 20 #[.string S, .int .i64 N] 2 at1 0) (hat : 0 < at1) (hk : Ans2 21 #[.string S, .int .i64 at1] k 0) (hkat : at1 < k) (h : Int) (hl : AnsB 23 #[.string S, .int .i64 N] ok h) (hh : (h != 0) = true)
    (HJ : i64ok 0 ∧ i64ok h) (hd : Ans2 21 #[.string S, .int .i64 M] n f) :
    Calls Try.prog 16 #[.agg #[.int .i64 kd, .int .i64 N, .int .i64 M, .string S, .string E]] w fun e w' => e = .returned (.bool true) ∧ Below w.heap.size w w' := by
  obtain ⟨nn, hi0, hi4, hif, hN⟩ := HI
  obtain ⟨hie, hih⟩ := HJ
  have NN : Hid (∀ a, i64ok a → NumT a) := nn
  clear nn
  go_enter Try.func16, Try.ntmps16
  go_wp2_with (go_at_call 22; refine (NN.out _ ?_ _).mono ?_; (first | exact hie | exact hif | exact hih | exact hi0 | exact hi4); rintro e w9 ⟨rfl, rfl⟩)
  refine (hv _).mono ?_
  rintro e w1 ⟨rfl, hb_w1⟩
  obtain ⟨cc_w1, _⟩ := bcellL hb_w1
  have q3 : w1.cell? ⟨w.heap.size, 3, none⟩ = some (.string S) := by rw [cc_w1 _ _ (by simp)]; simp
  have q2 : w1.cell? ⟨w.heap.size, 2, none⟩ = some (.int .i64 M) := by rw [cc_w1 _ _ (by simp)]; simp
  have q1 : w1.cell? ⟨w.heap.size, 1, none⟩ = some (.int .i64 N) := by rw [cc_w1 _ _ (by simp)]; simp
  have zs : w.heap.size < w1.heap.size := by have := hb_w1.size; simp only [World.size_alloc] at this; omega
  have B : Hid (Below w.heap.size w w1) := ((Below.refl _ _).alloc (Nat.le_refl _) _).trans (hb_w1.mono (by simp))
  clear cc_w1 hb_w1
  go_wp2_with (go_at_call 22; refine (NN.out _ ?_ _).mono ?_; (first | exact hie | exact hif | exact hih | exact hi0 | exact hi4); rintro e w9 ⟨rfl, rfl⟩)
  refine (hd _).mono ?_
  rintro e w2 ⟨rfl, hb_w2⟩
  have q3 : w2.cell? ⟨w.heap.size, 3, none⟩ = some (.string S) := (hb_w2.cell (p := ⟨w.heap.size, 3, none⟩) zs).trans q3
  have q2 : w2.cell? ⟨w.heap.size, 2, none⟩ = some (.int .i64 M) := (hb_w2.cell (p := ⟨w.heap.size, 2, none⟩) zs).trans q2
  have q1 : w2.cell? ⟨w.heap.size, 1, none⟩ = some (.int .i64 N) := (hb_w2.cell (p := ⟨w.heap.size, 1, none⟩) zs).trans q1
  have B : Hid (Below w.heap.size w w2) := B.out.trans (hb_w2.mono (Nat.le_of_lt zs))
  have zs : w.heap.size < w2.heap.size := Nat.lt_of_lt_of_le zs hb_w2.size
  clear hb_w2
  go_wp2_with (go_at_call 22; refine (NN.out _ ?_ _).mono ?_; (first | exact hie | exact hif | exact hih | exact hi0 | exact hi4); rintro e w9 ⟨rfl, rfl⟩)
  refine (hk _).mono ?_
  rintro e w3 ⟨rfl, hb_w3⟩
  have q3 : w3.cell? ⟨w.heap.size, 3, none⟩ = some (.string S) := (hb_w3.cell (p := ⟨w.heap.size, 3, none⟩) zs).trans q3
  have q2 : w3.cell? ⟨w.heap.size, 2, none⟩ = some (.int .i64 M) := (hb_w3.cell (p := ⟨w.heap.size, 2, none⟩) zs).trans q2
  have q1 : w3.cell? ⟨w.heap.size, 1, none⟩ = some (.int .i64 N) := (hb_w3.cell (p := ⟨w.heap.size, 1, none⟩) zs).trans q1
  have B : Hid (Below w.heap.size w w3) := B.out.trans (hb_w3.mono (Nat.le_of_lt zs))
  have zs : w.heap.size < w3.heap.size := Nat.lt_of_lt_of_le zs hb_w3.size
  clear hb_w3
  go_wp2_with (go_at_call 22; refine (NN.out _ ?_ _).mono ?_; (first | exact hie | exact hif | exact hih | exact hi0 | exact hi4); rintro e w9 ⟨rfl, rfl⟩)
  refine (hl _).mono ?_
  rintro e w4 ⟨rfl, hb_w4⟩
  have q3 : w4.cell? ⟨w.heap.size, 3, none⟩ = some (.string S) := (hb_w4.cell (p := ⟨w.heap.size, 3, none⟩) zs).trans q3
  have q2 : w4.cell? ⟨w.heap.size, 2, none⟩ = some (.int .i64 M) := (hb_w4.cell (p := ⟨w.heap.size, 2, none⟩) zs).trans q2
  have q1 : w4.cell? ⟨w.heap.size, 1, none⟩ = some (.int .i64 N) := (hb_w4.cell (p := ⟨w.heap.size, 1, none⟩) zs).trans q1
  have B : Hid (Below w.heap.size w w4) := B.out.trans (hb_w4.mono (Nat.le_of_lt zs))
  have zs : w.heap.size < w4.heap.size := Nat.lt_of_lt_of_le zs hb_w4.size
  clear hb_w4
  go_wp2_with (go_at_call 22; refine (NN.out _ ?_ _).mono ?_; (first | exact hie | exact hif | exact hih | exact hi0 | exact hi4); rintro e w9 ⟨rfl, rfl⟩)
  go_ret
  exact ⟨rfl, B.out⟩

set_option maxRecDepth 100000 in
set_option maxHeartbeats 3200000 in
theorem safe_E2 (_v at1 n f N M : Int) (_ok : Bool) (S E : ByteArray) (kd : Int) (w : World) (HI : (∀ a, i64ok a → NumT a) ∧ i64ok 0 ∧ i64ok 4 ∧ i64ok f ∧ -1 ≤ N)
    (k : Int) (hv : Ans3 20 #[.string S, .int .i64 N] 2 at1 0) (hat : 0 < at1) (hk : Ans2 21 #[.string S, .int .i64 at1] k 0) (hkat : at1 < k) (hl : AnsB 23 #[.string S, .int .i64 N] false 0)
    (HJ : i64ok 0 ∧ i64ok 0) (hd : Ans2 21 #[.string S, .int .i64 M] n f) :
    Calls Try.prog 16 #[.agg #[.int .i64 kd, .int .i64 N, .int .i64 M, .string S, .string E]] w fun e w' => e = .returned (.bool true) ∧ Below w.heap.size w w' := by
  obtain ⟨nn, hi0, hi4, hif, hN⟩ := HI
  obtain ⟨hie, hih⟩ := HJ
  have NN : Hid (∀ a, i64ok a → NumT a) := nn
  clear nn
  go_enter Try.func16, Try.ntmps16
  go_wp2_with (go_at_call 22; refine (NN.out _ ?_ _).mono ?_; (first | exact hie | exact hif | exact hih | exact hi0 | exact hi4); rintro e w9 ⟨rfl, rfl⟩)
  refine (hv _).mono ?_
  rintro e w1 ⟨rfl, hb_w1⟩
  obtain ⟨cc_w1, _⟩ := bcellL hb_w1
  have q3 : w1.cell? ⟨w.heap.size, 3, none⟩ = some (.string S) := by rw [cc_w1 _ _ (by simp)]; simp
  have q2 : w1.cell? ⟨w.heap.size, 2, none⟩ = some (.int .i64 M) := by rw [cc_w1 _ _ (by simp)]; simp
  have q1 : w1.cell? ⟨w.heap.size, 1, none⟩ = some (.int .i64 N) := by rw [cc_w1 _ _ (by simp)]; simp
  have zs : w.heap.size < w1.heap.size := by have := hb_w1.size; simp only [World.size_alloc] at this; omega
  have B : Hid (Below w.heap.size w w1) := ((Below.refl _ _).alloc (Nat.le_refl _) _).trans (hb_w1.mono (by simp))
  clear cc_w1 hb_w1
  go_wp2_with (go_at_call 22; refine (NN.out _ ?_ _).mono ?_; (first | exact hie | exact hif | exact hih | exact hi0 | exact hi4); rintro e w9 ⟨rfl, rfl⟩)
  refine (hd _).mono ?_
  rintro e w2 ⟨rfl, hb_w2⟩
  have q3 : w2.cell? ⟨w.heap.size, 3, none⟩ = some (.string S) := (hb_w2.cell (p := ⟨w.heap.size, 3, none⟩) zs).trans q3
  have q2 : w2.cell? ⟨w.heap.size, 2, none⟩ = some (.int .i64 M) := (hb_w2.cell (p := ⟨w.heap.size, 2, none⟩) zs).trans q2
  have q1 : w2.cell? ⟨w.heap.size, 1, none⟩ = some (.int .i64 N) := (hb_w2.cell (p := ⟨w.heap.size, 1, none⟩) zs).trans q1
  have B : Hid (Below w.heap.size w w2) := B.out.trans (hb_w2.mono (Nat.le_of_lt zs))
  have zs : w.heap.size < w2.heap.size := Nat.lt_of_lt_of_le zs hb_w2.size
  clear hb_w2
  go_wp2_with (go_at_call 22; refine (NN.out _ ?_ _).mono ?_; (first | exact hie | exact hif | exact hih | exact hi0 | exact hi4); rintro e w9 ⟨rfl, rfl⟩)
  refine (hk _).mono ?_
  rintro e w3 ⟨rfl, hb_w3⟩
  have q3 : w3.cell? ⟨w.heap.size, 3, none⟩ = some (.string S) := (hb_w3.cell (p := ⟨w.heap.size, 3, none⟩) zs).trans q3
  have q2 : w3.cell? ⟨w.heap.size, 2, none⟩ = some (.int .i64 M) := (hb_w3.cell (p := ⟨w.heap.size, 2, none⟩) zs).trans q2
  have q1 : w3.cell? ⟨w.heap.size, 1, none⟩ = some (.int .i64 N) := (hb_w3.cell (p := ⟨w.heap.size, 1, none⟩) zs).trans q1
  have B : Hid (Below w.heap.size w w3) := B.out.trans (hb_w3.mono (Nat.le_of_lt zs))
  have zs : w.heap.size < w3.heap.size := Nat.lt_of_lt_of_le zs hb_w3.size
  clear hb_w3
  go_wp2_with (go_at_call 22; refine (NN.out _ ?_ _).mono ?_; (first | exact hie | exact hif | exact hih | exact hi0 | exact hi4); rintro e w9 ⟨rfl, rfl⟩)
  refine (hl _).mono ?_
  rintro e w4 ⟨rfl, hb_w4⟩
  have q3 : w4.cell? ⟨w.heap.size, 3, none⟩ = some (.string S) := (hb_w4.cell (p := ⟨w.heap.size, 3, none⟩) zs).trans q3
  have q2 : w4.cell? ⟨w.heap.size, 2, none⟩ = some (.int .i64 M) := (hb_w4.cell (p := ⟨w.heap.size, 2, none⟩) zs).trans q2
  have q1 : w4.cell? ⟨w.heap.size, 1, none⟩ = some (.int .i64 N) := (hb_w4.cell (p := ⟨w.heap.size, 1, none⟩) zs).trans q1
  have B : Hid (Below w.heap.size w w4) := B.out.trans (hb_w4.mono (Nat.le_of_lt zs))
  have zs : w.heap.size < w4.heap.size := Nat.lt_of_lt_of_le zs hb_w4.size
  clear hb_w4
  go_wp2_with (go_at_call 22; refine (NN.out _ ?_ _).mono ?_; (first | exact hie | exact hif | exact hih | exact hi0 | exact hi4); rintro e w9 ⟨rfl, rfl⟩)
  go_ret
  exact ⟨rfl, B.out⟩

set_option maxRecDepth 100000 in
set_option maxHeartbeats 3200000 in
theorem safe_E3 (_v at1 n f N M : Int) (_ok : Bool) (S E : ByteArray) (kd : Int) (w : World) (HI : (∀ a, i64ok a → NumT a) ∧ i64ok 0 ∧ i64ok 4 ∧ i64ok f ∧ -1 ≤ N)
    (k : Int) (hv : Ans3 20 #[.string S, .int .i64 N] 2 at1 0) (hat : 0 < at1) (hk : Ans2 21 #[.string S, .int .i64 at1] k 0) (hkat : at1 < k) (hl : AnsB 23 #[.string S, .int .i64 N] true 0) (ht2 : Ans3 20 #[.string S, .int .i64 2520] 1 0 0) (hl2 : AnsB 23 #[.string S, .int .i64 (N + 1)] true 0) (hN20 : N ≤ 20)
    (HJ : i64ok 0 ∧ i64ok 0) (hd : Ans2 21 #[.string S, .int .i64 M] n f) :
    Calls Try.prog 16 #[.agg #[.int .i64 kd, .int .i64 N, .int .i64 M, .string S, .string E]] w fun e w' => e = .returned (.bool true) ∧ Below w.heap.size w w' := by
  obtain ⟨nn, hi0, hi4, hif, hN⟩ := HI
  obtain ⟨hie, hih⟩ := HJ
  have NN : Hid (∀ a, i64ok a → NumT a) := nn
  clear nn
  go_enter Try.func16, Try.ntmps16
  go_wp2_with (go_at_call 22; refine (NN.out _ ?_ _).mono ?_; (first | exact hie | exact hif | exact hih | exact hi0 | exact hi4); rintro e w9 ⟨rfl, rfl⟩)
  refine (hv _).mono ?_
  rintro e w1 ⟨rfl, hb_w1⟩
  obtain ⟨cc_w1, _⟩ := bcellL hb_w1
  have q3 : w1.cell? ⟨w.heap.size, 3, none⟩ = some (.string S) := by rw [cc_w1 _ _ (by simp)]; simp
  have q2 : w1.cell? ⟨w.heap.size, 2, none⟩ = some (.int .i64 M) := by rw [cc_w1 _ _ (by simp)]; simp
  have q1 : w1.cell? ⟨w.heap.size, 1, none⟩ = some (.int .i64 N) := by rw [cc_w1 _ _ (by simp)]; simp
  have zs : w.heap.size < w1.heap.size := by have := hb_w1.size; simp only [World.size_alloc] at this; omega
  have B : Hid (Below w.heap.size w w1) := ((Below.refl _ _).alloc (Nat.le_refl _) _).trans (hb_w1.mono (by simp))
  clear cc_w1 hb_w1
  go_wp2_with (go_at_call 22; refine (NN.out _ ?_ _).mono ?_; (first | exact hie | exact hif | exact hih | exact hi0 | exact hi4); rintro e w9 ⟨rfl, rfl⟩)
  refine (hd _).mono ?_
  rintro e w2 ⟨rfl, hb_w2⟩
  have q3 : w2.cell? ⟨w.heap.size, 3, none⟩ = some (.string S) := (hb_w2.cell (p := ⟨w.heap.size, 3, none⟩) zs).trans q3
  have q2 : w2.cell? ⟨w.heap.size, 2, none⟩ = some (.int .i64 M) := (hb_w2.cell (p := ⟨w.heap.size, 2, none⟩) zs).trans q2
  have q1 : w2.cell? ⟨w.heap.size, 1, none⟩ = some (.int .i64 N) := (hb_w2.cell (p := ⟨w.heap.size, 1, none⟩) zs).trans q1
  have B : Hid (Below w.heap.size w w2) := B.out.trans (hb_w2.mono (Nat.le_of_lt zs))
  have zs : w.heap.size < w2.heap.size := Nat.lt_of_lt_of_le zs hb_w2.size
  clear hb_w2
  go_wp2_with (go_at_call 22; refine (NN.out _ ?_ _).mono ?_; (first | exact hie | exact hif | exact hih | exact hi0 | exact hi4); rintro e w9 ⟨rfl, rfl⟩)
  refine (hk _).mono ?_
  rintro e w3 ⟨rfl, hb_w3⟩
  have q3 : w3.cell? ⟨w.heap.size, 3, none⟩ = some (.string S) := (hb_w3.cell (p := ⟨w.heap.size, 3, none⟩) zs).trans q3
  have q2 : w3.cell? ⟨w.heap.size, 2, none⟩ = some (.int .i64 M) := (hb_w3.cell (p := ⟨w.heap.size, 2, none⟩) zs).trans q2
  have q1 : w3.cell? ⟨w.heap.size, 1, none⟩ = some (.int .i64 N) := (hb_w3.cell (p := ⟨w.heap.size, 1, none⟩) zs).trans q1
  have B : Hid (Below w.heap.size w w3) := B.out.trans (hb_w3.mono (Nat.le_of_lt zs))
  have zs : w.heap.size < w3.heap.size := Nat.lt_of_lt_of_le zs hb_w3.size
  clear hb_w3
  go_wp2_with (go_at_call 22; refine (NN.out _ ?_ _).mono ?_; (first | exact hie | exact hif | exact hih | exact hi0 | exact hi4); rintro e w9 ⟨rfl, rfl⟩)
  refine (hl _).mono ?_
  rintro e w4 ⟨rfl, hb_w4⟩
  have q3 : w4.cell? ⟨w.heap.size, 3, none⟩ = some (.string S) := (hb_w4.cell (p := ⟨w.heap.size, 3, none⟩) zs).trans q3
  have q2 : w4.cell? ⟨w.heap.size, 2, none⟩ = some (.int .i64 M) := (hb_w4.cell (p := ⟨w.heap.size, 2, none⟩) zs).trans q2
  have q1 : w4.cell? ⟨w.heap.size, 1, none⟩ = some (.int .i64 N) := (hb_w4.cell (p := ⟨w.heap.size, 1, none⟩) zs).trans q1
  have B : Hid (Below w.heap.size w w4) := B.out.trans (hb_w4.mono (Nat.le_of_lt zs))
  have zs : w.heap.size < w4.heap.size := Nat.lt_of_lt_of_le zs hb_w4.size
  clear hb_w4
  go_wp2_with (go_at_call 22; refine (NN.out _ ?_ _).mono ?_; (first | exact hie | exact hif | exact hih | exact hi0 | exact hi4); rintro e w9 ⟨rfl, rfl⟩)
  refine (ht2 _).mono ?_
  rintro e w5 ⟨rfl, hb_w5⟩
  have q3 : w5.cell? ⟨w.heap.size, 3, none⟩ = some (.string S) := (hb_w5.cell (p := ⟨w.heap.size, 3, none⟩) zs).trans q3
  have q2 : w5.cell? ⟨w.heap.size, 2, none⟩ = some (.int .i64 M) := (hb_w5.cell (p := ⟨w.heap.size, 2, none⟩) zs).trans q2
  have q1 : w5.cell? ⟨w.heap.size, 1, none⟩ = some (.int .i64 N) := (hb_w5.cell (p := ⟨w.heap.size, 1, none⟩) zs).trans q1
  have B : Hid (Below w.heap.size w w5) := B.out.trans (hb_w5.mono (Nat.le_of_lt zs))
  have zs : w.heap.size < w5.heap.size := Nat.lt_of_lt_of_le zs hb_w5.size
  clear hb_w5
  go_wp2_with (go_at_call 22; refine (NN.out _ ?_ _).mono ?_; (first | exact hie | exact hif | exact hih | exact hi0 | exact hi4); rintro e w9 ⟨rfl, rfl⟩)
  refine (hl2 _).mono ?_
  rintro e w6 ⟨rfl, hb_w6⟩
  have q3 : w6.cell? ⟨w.heap.size, 3, none⟩ = some (.string S) := (hb_w6.cell (p := ⟨w.heap.size, 3, none⟩) zs).trans q3
  have q2 : w6.cell? ⟨w.heap.size, 2, none⟩ = some (.int .i64 M) := (hb_w6.cell (p := ⟨w.heap.size, 2, none⟩) zs).trans q2
  have q1 : w6.cell? ⟨w.heap.size, 1, none⟩ = some (.int .i64 N) := (hb_w6.cell (p := ⟨w.heap.size, 1, none⟩) zs).trans q1
  have B : Hid (Below w.heap.size w w6) := B.out.trans (hb_w6.mono (Nat.le_of_lt zs))
  have zs : w.heap.size < w6.heap.size := Nat.lt_of_lt_of_le zs hb_w6.size
  clear hb_w6
  go_wp2_with (go_at_call 22; refine (NN.out _ ?_ _).mono ?_; (first | exact hie | exact hif | exact hih | exact hi0 | exact hi4); rintro e w9 ⟨rfl, rfl⟩)
  go_ret
  exact ⟨rfl, B.out⟩

set_option maxRecDepth 100000 in
set_option maxHeartbeats 3200000 in
theorem safe_E4 (_v at1 n f N M : Int) (_ok : Bool) (S E : ByteArray) (kd : Int) (w : World) (HI : (∀ a, i64ok a → NumT a) ∧ i64ok 0 ∧ i64ok 4 ∧ i64ok f ∧ -1 ≤ N)
    (k : Int) (hv : Ans3 20 #[.string S, .int .i64 N] 2 at1 0) (hat : 0 < at1) (hk : Ans2 21 #[.string S, .int .i64 at1] k 0) (hkat : at1 < k) (hl : AnsB 23 #[.string S, .int .i64 N] true 0) (ht2 : Ans3 20 #[.string S, .int .i64 2520] 1 0 0) (hl2 : AnsB 23 #[.string S, .int .i64 (N + 1)] false 4) (hN20 : N ≤ 20)
    (HJ : i64ok 0 ∧ i64ok 0) (hd : Ans2 21 #[.string S, .int .i64 M] n f) :
    Calls Try.prog 16 #[.agg #[.int .i64 kd, .int .i64 N, .int .i64 M, .string S, .string E]] w fun e w' => e = .returned (.bool true) ∧ Below w.heap.size w w' := by
  obtain ⟨nn, hi0, hi4, hif, hN⟩ := HI
  obtain ⟨hie, hih⟩ := HJ
  have NN : Hid (∀ a, i64ok a → NumT a) := nn
  clear nn
  go_enter Try.func16, Try.ntmps16
  go_wp2_with (go_at_call 22; refine (NN.out _ ?_ _).mono ?_; (first | exact hie | exact hif | exact hih | exact hi0 | exact hi4); rintro e w9 ⟨rfl, rfl⟩)
  refine (hv _).mono ?_
  rintro e w1 ⟨rfl, hb_w1⟩
  obtain ⟨cc_w1, _⟩ := bcellL hb_w1
  have q3 : w1.cell? ⟨w.heap.size, 3, none⟩ = some (.string S) := by rw [cc_w1 _ _ (by simp)]; simp
  have q2 : w1.cell? ⟨w.heap.size, 2, none⟩ = some (.int .i64 M) := by rw [cc_w1 _ _ (by simp)]; simp
  have q1 : w1.cell? ⟨w.heap.size, 1, none⟩ = some (.int .i64 N) := by rw [cc_w1 _ _ (by simp)]; simp
  have zs : w.heap.size < w1.heap.size := by have := hb_w1.size; simp only [World.size_alloc] at this; omega
  have B : Hid (Below w.heap.size w w1) := ((Below.refl _ _).alloc (Nat.le_refl _) _).trans (hb_w1.mono (by simp))
  clear cc_w1 hb_w1
  go_wp2_with (go_at_call 22; refine (NN.out _ ?_ _).mono ?_; (first | exact hie | exact hif | exact hih | exact hi0 | exact hi4); rintro e w9 ⟨rfl, rfl⟩)
  refine (hd _).mono ?_
  rintro e w2 ⟨rfl, hb_w2⟩
  have q3 : w2.cell? ⟨w.heap.size, 3, none⟩ = some (.string S) := (hb_w2.cell (p := ⟨w.heap.size, 3, none⟩) zs).trans q3
  have q2 : w2.cell? ⟨w.heap.size, 2, none⟩ = some (.int .i64 M) := (hb_w2.cell (p := ⟨w.heap.size, 2, none⟩) zs).trans q2
  have q1 : w2.cell? ⟨w.heap.size, 1, none⟩ = some (.int .i64 N) := (hb_w2.cell (p := ⟨w.heap.size, 1, none⟩) zs).trans q1
  have B : Hid (Below w.heap.size w w2) := B.out.trans (hb_w2.mono (Nat.le_of_lt zs))
  have zs : w.heap.size < w2.heap.size := Nat.lt_of_lt_of_le zs hb_w2.size
  clear hb_w2
  go_wp2_with (go_at_call 22; refine (NN.out _ ?_ _).mono ?_; (first | exact hie | exact hif | exact hih | exact hi0 | exact hi4); rintro e w9 ⟨rfl, rfl⟩)
  refine (hk _).mono ?_
  rintro e w3 ⟨rfl, hb_w3⟩
  have q3 : w3.cell? ⟨w.heap.size, 3, none⟩ = some (.string S) := (hb_w3.cell (p := ⟨w.heap.size, 3, none⟩) zs).trans q3
  have q2 : w3.cell? ⟨w.heap.size, 2, none⟩ = some (.int .i64 M) := (hb_w3.cell (p := ⟨w.heap.size, 2, none⟩) zs).trans q2
  have q1 : w3.cell? ⟨w.heap.size, 1, none⟩ = some (.int .i64 N) := (hb_w3.cell (p := ⟨w.heap.size, 1, none⟩) zs).trans q1
  have B : Hid (Below w.heap.size w w3) := B.out.trans (hb_w3.mono (Nat.le_of_lt zs))
  have zs : w.heap.size < w3.heap.size := Nat.lt_of_lt_of_le zs hb_w3.size
  clear hb_w3
  go_wp2_with (go_at_call 22; refine (NN.out _ ?_ _).mono ?_; (first | exact hie | exact hif | exact hih | exact hi0 | exact hi4); rintro e w9 ⟨rfl, rfl⟩)
  refine (hl _).mono ?_
  rintro e w4 ⟨rfl, hb_w4⟩
  have q3 : w4.cell? ⟨w.heap.size, 3, none⟩ = some (.string S) := (hb_w4.cell (p := ⟨w.heap.size, 3, none⟩) zs).trans q3
  have q2 : w4.cell? ⟨w.heap.size, 2, none⟩ = some (.int .i64 M) := (hb_w4.cell (p := ⟨w.heap.size, 2, none⟩) zs).trans q2
  have q1 : w4.cell? ⟨w.heap.size, 1, none⟩ = some (.int .i64 N) := (hb_w4.cell (p := ⟨w.heap.size, 1, none⟩) zs).trans q1
  have B : Hid (Below w.heap.size w w4) := B.out.trans (hb_w4.mono (Nat.le_of_lt zs))
  have zs : w.heap.size < w4.heap.size := Nat.lt_of_lt_of_le zs hb_w4.size
  clear hb_w4
  go_wp2_with (go_at_call 22; refine (NN.out _ ?_ _).mono ?_; (first | exact hie | exact hif | exact hih | exact hi0 | exact hi4); rintro e w9 ⟨rfl, rfl⟩)
  refine (ht2 _).mono ?_
  rintro e w5 ⟨rfl, hb_w5⟩
  have q3 : w5.cell? ⟨w.heap.size, 3, none⟩ = some (.string S) := (hb_w5.cell (p := ⟨w.heap.size, 3, none⟩) zs).trans q3
  have q2 : w5.cell? ⟨w.heap.size, 2, none⟩ = some (.int .i64 M) := (hb_w5.cell (p := ⟨w.heap.size, 2, none⟩) zs).trans q2
  have q1 : w5.cell? ⟨w.heap.size, 1, none⟩ = some (.int .i64 N) := (hb_w5.cell (p := ⟨w.heap.size, 1, none⟩) zs).trans q1
  have B : Hid (Below w.heap.size w w5) := B.out.trans (hb_w5.mono (Nat.le_of_lt zs))
  have zs : w.heap.size < w5.heap.size := Nat.lt_of_lt_of_le zs hb_w5.size
  clear hb_w5
  go_wp2_with (go_at_call 22; refine (NN.out _ ?_ _).mono ?_; (first | exact hie | exact hif | exact hih | exact hi0 | exact hi4); rintro e w9 ⟨rfl, rfl⟩)
  refine (hl2 _).mono ?_
  rintro e w6 ⟨rfl, hb_w6⟩
  have q3 : w6.cell? ⟨w.heap.size, 3, none⟩ = some (.string S) := (hb_w6.cell (p := ⟨w.heap.size, 3, none⟩) zs).trans q3
  have q2 : w6.cell? ⟨w.heap.size, 2, none⟩ = some (.int .i64 M) := (hb_w6.cell (p := ⟨w.heap.size, 2, none⟩) zs).trans q2
  have q1 : w6.cell? ⟨w.heap.size, 1, none⟩ = some (.int .i64 N) := (hb_w6.cell (p := ⟨w.heap.size, 1, none⟩) zs).trans q1
  have B : Hid (Below w.heap.size w w6) := B.out.trans (hb_w6.mono (Nat.le_of_lt zs))
  have zs : w.heap.size < w6.heap.size := Nat.lt_of_lt_of_le zs hb_w6.size
  clear hb_w6
  go_wp2_with (go_at_call 22; refine (NN.out _ ?_ _).mono ?_; (first | exact hie | exact hif | exact hih | exact hi0 | exact hi4); rintro e w9 ⟨rfl, rfl⟩)
  go_ret
  exact ⟨rfl, B.out⟩

set_option maxRecDepth 100000 in
set_option maxHeartbeats 3200000 in
theorem safe_F1 (_v at1 n f N M : Int) (ok : Bool) (S E : ByteArray) (kd : Int) (w : World) (HI : (∀ a, i64ok a → NumT a) ∧ i64ok 0 ∧ i64ok 4 ∧ i64ok f ∧ -1 ≤ N)
    (hv : Ans3 20 #[.string S, .int .i64 N] 3 at1 0) (h : Int) (hl : AnsB 23 #[.string S, .int .i64 N] ok h) (hh : (h != 0) = true)
    (HJ : i64ok 0 ∧ i64ok h) (hd : Ans2 21 #[.string S, .int .i64 M] n f) :
    Calls Try.prog 16 #[.agg #[.int .i64 kd, .int .i64 N, .int .i64 M, .string S, .string E]] w fun e w' => e = .returned (.bool true) ∧ Below w.heap.size w w' := by
  obtain ⟨nn, hi0, hi4, hif, hN⟩ := HI
  obtain ⟨hie, hih⟩ := HJ
  have NN : Hid (∀ a, i64ok a → NumT a) := nn
  clear nn
  go_enter Try.func16, Try.ntmps16
  go_wp2_with (go_at_call 22; refine (NN.out _ ?_ _).mono ?_; (first | exact hie | exact hif | exact hih | exact hi0 | exact hi4); rintro e w9 ⟨rfl, rfl⟩)
  refine (hv _).mono ?_
  rintro e w1 ⟨rfl, hb_w1⟩
  obtain ⟨cc_w1, _⟩ := bcellL hb_w1
  have q3 : w1.cell? ⟨w.heap.size, 3, none⟩ = some (.string S) := by rw [cc_w1 _ _ (by simp)]; simp
  have q2 : w1.cell? ⟨w.heap.size, 2, none⟩ = some (.int .i64 M) := by rw [cc_w1 _ _ (by simp)]; simp
  have q1 : w1.cell? ⟨w.heap.size, 1, none⟩ = some (.int .i64 N) := by rw [cc_w1 _ _ (by simp)]; simp
  have zs : w.heap.size < w1.heap.size := by have := hb_w1.size; simp only [World.size_alloc] at this; omega
  have B : Hid (Below w.heap.size w w1) := ((Below.refl _ _).alloc (Nat.le_refl _) _).trans (hb_w1.mono (by simp))
  clear cc_w1 hb_w1
  go_wp2_with (go_at_call 22; refine (NN.out _ ?_ _).mono ?_; (first | exact hie | exact hif | exact hih | exact hi0 | exact hi4); rintro e w9 ⟨rfl, rfl⟩)
  refine (hd _).mono ?_
  rintro e w2 ⟨rfl, hb_w2⟩
  have q3 : w2.cell? ⟨w.heap.size, 3, none⟩ = some (.string S) := (hb_w2.cell (p := ⟨w.heap.size, 3, none⟩) zs).trans q3
  have q2 : w2.cell? ⟨w.heap.size, 2, none⟩ = some (.int .i64 M) := (hb_w2.cell (p := ⟨w.heap.size, 2, none⟩) zs).trans q2
  have q1 : w2.cell? ⟨w.heap.size, 1, none⟩ = some (.int .i64 N) := (hb_w2.cell (p := ⟨w.heap.size, 1, none⟩) zs).trans q1
  have B : Hid (Below w.heap.size w w2) := B.out.trans (hb_w2.mono (Nat.le_of_lt zs))
  have zs : w.heap.size < w2.heap.size := Nat.lt_of_lt_of_le zs hb_w2.size
  clear hb_w2
  go_wp2_with (go_at_call 22; refine (NN.out _ ?_ _).mono ?_; (first | exact hie | exact hif | exact hih | exact hi0 | exact hi4); rintro e w9 ⟨rfl, rfl⟩)
  refine (hl _).mono ?_
  rintro e w4 ⟨rfl, hb_w4⟩
  have q3 : w4.cell? ⟨w.heap.size, 3, none⟩ = some (.string S) := (hb_w4.cell (p := ⟨w.heap.size, 3, none⟩) zs).trans q3
  have q2 : w4.cell? ⟨w.heap.size, 2, none⟩ = some (.int .i64 M) := (hb_w4.cell (p := ⟨w.heap.size, 2, none⟩) zs).trans q2
  have q1 : w4.cell? ⟨w.heap.size, 1, none⟩ = some (.int .i64 N) := (hb_w4.cell (p := ⟨w.heap.size, 1, none⟩) zs).trans q1
  have B : Hid (Below w.heap.size w w4) := B.out.trans (hb_w4.mono (Nat.le_of_lt zs))
  have zs : w.heap.size < w4.heap.size := Nat.lt_of_lt_of_le zs hb_w4.size
  clear hb_w4
  go_wp2_with (go_at_call 22; refine (NN.out _ ?_ _).mono ?_; (first | exact hie | exact hif | exact hih | exact hi0 | exact hi4); rintro e w9 ⟨rfl, rfl⟩)
  go_ret
  exact ⟨rfl, B.out⟩

set_option maxRecDepth 100000 in
set_option maxHeartbeats 3200000 in
theorem safe_F2 (_v at1 n f N M : Int) (_ok : Bool) (S E : ByteArray) (kd : Int) (w : World) (HI : (∀ a, i64ok a → NumT a) ∧ i64ok 0 ∧ i64ok 4 ∧ i64ok f ∧ -1 ≤ N)
    (hv : Ans3 20 #[.string S, .int .i64 N] 3 at1 0) (hl : AnsB 23 #[.string S, .int .i64 N] false 0)
    (HJ : i64ok 0 ∧ i64ok 0) (hd : Ans2 21 #[.string S, .int .i64 M] n f) :
    Calls Try.prog 16 #[.agg #[.int .i64 kd, .int .i64 N, .int .i64 M, .string S, .string E]] w fun e w' => e = .returned (.bool true) ∧ Below w.heap.size w w' := by
  obtain ⟨nn, hi0, hi4, hif, hN⟩ := HI
  obtain ⟨hie, hih⟩ := HJ
  have NN : Hid (∀ a, i64ok a → NumT a) := nn
  clear nn
  go_enter Try.func16, Try.ntmps16
  go_wp2_with (go_at_call 22; refine (NN.out _ ?_ _).mono ?_; (first | exact hie | exact hif | exact hih | exact hi0 | exact hi4); rintro e w9 ⟨rfl, rfl⟩)
  refine (hv _).mono ?_
  rintro e w1 ⟨rfl, hb_w1⟩
  obtain ⟨cc_w1, _⟩ := bcellL hb_w1
  have q3 : w1.cell? ⟨w.heap.size, 3, none⟩ = some (.string S) := by rw [cc_w1 _ _ (by simp)]; simp
  have q2 : w1.cell? ⟨w.heap.size, 2, none⟩ = some (.int .i64 M) := by rw [cc_w1 _ _ (by simp)]; simp
  have q1 : w1.cell? ⟨w.heap.size, 1, none⟩ = some (.int .i64 N) := by rw [cc_w1 _ _ (by simp)]; simp
  have zs : w.heap.size < w1.heap.size := by have := hb_w1.size; simp only [World.size_alloc] at this; omega
  have B : Hid (Below w.heap.size w w1) := ((Below.refl _ _).alloc (Nat.le_refl _) _).trans (hb_w1.mono (by simp))
  clear cc_w1 hb_w1
  go_wp2_with (go_at_call 22; refine (NN.out _ ?_ _).mono ?_; (first | exact hie | exact hif | exact hih | exact hi0 | exact hi4); rintro e w9 ⟨rfl, rfl⟩)
  refine (hd _).mono ?_
  rintro e w2 ⟨rfl, hb_w2⟩
  have q3 : w2.cell? ⟨w.heap.size, 3, none⟩ = some (.string S) := (hb_w2.cell (p := ⟨w.heap.size, 3, none⟩) zs).trans q3
  have q2 : w2.cell? ⟨w.heap.size, 2, none⟩ = some (.int .i64 M) := (hb_w2.cell (p := ⟨w.heap.size, 2, none⟩) zs).trans q2
  have q1 : w2.cell? ⟨w.heap.size, 1, none⟩ = some (.int .i64 N) := (hb_w2.cell (p := ⟨w.heap.size, 1, none⟩) zs).trans q1
  have B : Hid (Below w.heap.size w w2) := B.out.trans (hb_w2.mono (Nat.le_of_lt zs))
  have zs : w.heap.size < w2.heap.size := Nat.lt_of_lt_of_le zs hb_w2.size
  clear hb_w2
  go_wp2_with (go_at_call 22; refine (NN.out _ ?_ _).mono ?_; (first | exact hie | exact hif | exact hih | exact hi0 | exact hi4); rintro e w9 ⟨rfl, rfl⟩)
  refine (hl _).mono ?_
  rintro e w4 ⟨rfl, hb_w4⟩
  have q3 : w4.cell? ⟨w.heap.size, 3, none⟩ = some (.string S) := (hb_w4.cell (p := ⟨w.heap.size, 3, none⟩) zs).trans q3
  have q2 : w4.cell? ⟨w.heap.size, 2, none⟩ = some (.int .i64 M) := (hb_w4.cell (p := ⟨w.heap.size, 2, none⟩) zs).trans q2
  have q1 : w4.cell? ⟨w.heap.size, 1, none⟩ = some (.int .i64 N) := (hb_w4.cell (p := ⟨w.heap.size, 1, none⟩) zs).trans q1
  have B : Hid (Below w.heap.size w w4) := B.out.trans (hb_w4.mono (Nat.le_of_lt zs))
  have zs : w.heap.size < w4.heap.size := Nat.lt_of_lt_of_le zs hb_w4.size
  clear hb_w4
  go_wp2_with (go_at_call 22; refine (NN.out _ ?_ _).mono ?_; (first | exact hie | exact hif | exact hih | exact hi0 | exact hi4); rintro e w9 ⟨rfl, rfl⟩)
  go_ret
  exact ⟨rfl, B.out⟩

set_option maxRecDepth 100000 in
set_option maxHeartbeats 3200000 in
theorem safe_F3 (_v at1 n f N M : Int) (_ok : Bool) (S E : ByteArray) (kd : Int) (w : World) (HI : (∀ a, i64ok a → NumT a) ∧ i64ok 0 ∧ i64ok 4 ∧ i64ok f ∧ -1 ≤ N)
    (hv : Ans3 20 #[.string S, .int .i64 N] 3 at1 0) (hl : AnsB 23 #[.string S, .int .i64 N] true 0) (ht2 : Ans3 20 #[.string S, .int .i64 2520] 1 0 0) (hl2 : AnsB 23 #[.string S, .int .i64 (N + 1)] true 0) (hN20 : N ≤ 20)
    (HJ : i64ok 0 ∧ i64ok 0) (hd : Ans2 21 #[.string S, .int .i64 M] n f) :
    Calls Try.prog 16 #[.agg #[.int .i64 kd, .int .i64 N, .int .i64 M, .string S, .string E]] w fun e w' => e = .returned (.bool true) ∧ Below w.heap.size w w' := by
  obtain ⟨nn, hi0, hi4, hif, hN⟩ := HI
  obtain ⟨hie, hih⟩ := HJ
  have NN : Hid (∀ a, i64ok a → NumT a) := nn
  clear nn
  go_enter Try.func16, Try.ntmps16
  go_wp2_with (go_at_call 22; refine (NN.out _ ?_ _).mono ?_; (first | exact hie | exact hif | exact hih | exact hi0 | exact hi4); rintro e w9 ⟨rfl, rfl⟩)
  refine (hv _).mono ?_
  rintro e w1 ⟨rfl, hb_w1⟩
  obtain ⟨cc_w1, _⟩ := bcellL hb_w1
  have q3 : w1.cell? ⟨w.heap.size, 3, none⟩ = some (.string S) := by rw [cc_w1 _ _ (by simp)]; simp
  have q2 : w1.cell? ⟨w.heap.size, 2, none⟩ = some (.int .i64 M) := by rw [cc_w1 _ _ (by simp)]; simp
  have q1 : w1.cell? ⟨w.heap.size, 1, none⟩ = some (.int .i64 N) := by rw [cc_w1 _ _ (by simp)]; simp
  have zs : w.heap.size < w1.heap.size := by have := hb_w1.size; simp only [World.size_alloc] at this; omega
  have B : Hid (Below w.heap.size w w1) := ((Below.refl _ _).alloc (Nat.le_refl _) _).trans (hb_w1.mono (by simp))
  clear cc_w1 hb_w1
  go_wp2_with (go_at_call 22; refine (NN.out _ ?_ _).mono ?_; (first | exact hie | exact hif | exact hih | exact hi0 | exact hi4); rintro e w9 ⟨rfl, rfl⟩)
  refine (hd _).mono ?_
  rintro e w2 ⟨rfl, hb_w2⟩
  have q3 : w2.cell? ⟨w.heap.size, 3, none⟩ = some (.string S) := (hb_w2.cell (p := ⟨w.heap.size, 3, none⟩) zs).trans q3
  have q2 : w2.cell? ⟨w.heap.size, 2, none⟩ = some (.int .i64 M) := (hb_w2.cell (p := ⟨w.heap.size, 2, none⟩) zs).trans q2
  have q1 : w2.cell? ⟨w.heap.size, 1, none⟩ = some (.int .i64 N) := (hb_w2.cell (p := ⟨w.heap.size, 1, none⟩) zs).trans q1
  have B : Hid (Below w.heap.size w w2) := B.out.trans (hb_w2.mono (Nat.le_of_lt zs))
  have zs : w.heap.size < w2.heap.size := Nat.lt_of_lt_of_le zs hb_w2.size
  clear hb_w2
  go_wp2_with (go_at_call 22; refine (NN.out _ ?_ _).mono ?_; (first | exact hie | exact hif | exact hih | exact hi0 | exact hi4); rintro e w9 ⟨rfl, rfl⟩)
  refine (hl _).mono ?_
  rintro e w4 ⟨rfl, hb_w4⟩
  have q3 : w4.cell? ⟨w.heap.size, 3, none⟩ = some (.string S) := (hb_w4.cell (p := ⟨w.heap.size, 3, none⟩) zs).trans q3
  have q2 : w4.cell? ⟨w.heap.size, 2, none⟩ = some (.int .i64 M) := (hb_w4.cell (p := ⟨w.heap.size, 2, none⟩) zs).trans q2
  have q1 : w4.cell? ⟨w.heap.size, 1, none⟩ = some (.int .i64 N) := (hb_w4.cell (p := ⟨w.heap.size, 1, none⟩) zs).trans q1
  have B : Hid (Below w.heap.size w w4) := B.out.trans (hb_w4.mono (Nat.le_of_lt zs))
  have zs : w.heap.size < w4.heap.size := Nat.lt_of_lt_of_le zs hb_w4.size
  clear hb_w4
  go_wp2_with (go_at_call 22; refine (NN.out _ ?_ _).mono ?_; (first | exact hie | exact hif | exact hih | exact hi0 | exact hi4); rintro e w9 ⟨rfl, rfl⟩)
  refine (ht2 _).mono ?_
  rintro e w5 ⟨rfl, hb_w5⟩
  have q3 : w5.cell? ⟨w.heap.size, 3, none⟩ = some (.string S) := (hb_w5.cell (p := ⟨w.heap.size, 3, none⟩) zs).trans q3
  have q2 : w5.cell? ⟨w.heap.size, 2, none⟩ = some (.int .i64 M) := (hb_w5.cell (p := ⟨w.heap.size, 2, none⟩) zs).trans q2
  have q1 : w5.cell? ⟨w.heap.size, 1, none⟩ = some (.int .i64 N) := (hb_w5.cell (p := ⟨w.heap.size, 1, none⟩) zs).trans q1
  have B : Hid (Below w.heap.size w w5) := B.out.trans (hb_w5.mono (Nat.le_of_lt zs))
  have zs : w.heap.size < w5.heap.size := Nat.lt_of_lt_of_le zs hb_w5.size
  clear hb_w5
  go_wp2_with (go_at_call 22; refine (NN.out _ ?_ _).mono ?_; (first | exact hie | exact hif | exact hih | exact hi0 | exact hi4); rintro e w9 ⟨rfl, rfl⟩)
  refine (hl2 _).mono ?_
  rintro e w6 ⟨rfl, hb_w6⟩
  have q3 : w6.cell? ⟨w.heap.size, 3, none⟩ = some (.string S) := (hb_w6.cell (p := ⟨w.heap.size, 3, none⟩) zs).trans q3
  have q2 : w6.cell? ⟨w.heap.size, 2, none⟩ = some (.int .i64 M) := (hb_w6.cell (p := ⟨w.heap.size, 2, none⟩) zs).trans q2
  have q1 : w6.cell? ⟨w.heap.size, 1, none⟩ = some (.int .i64 N) := (hb_w6.cell (p := ⟨w.heap.size, 1, none⟩) zs).trans q1
  have B : Hid (Below w.heap.size w w6) := B.out.trans (hb_w6.mono (Nat.le_of_lt zs))
  have zs : w.heap.size < w6.heap.size := Nat.lt_of_lt_of_le zs hb_w6.size
  clear hb_w6
  go_wp2_with (go_at_call 22; refine (NN.out _ ?_ _).mono ?_; (first | exact hie | exact hif | exact hih | exact hi0 | exact hi4); rintro e w9 ⟨rfl, rfl⟩)
  go_ret
  exact ⟨rfl, B.out⟩

set_option maxRecDepth 100000 in
set_option maxHeartbeats 3200000 in
theorem safe_F4 (_v at1 n f N M : Int) (_ok : Bool) (S E : ByteArray) (kd : Int) (w : World) (HI : (∀ a, i64ok a → NumT a) ∧ i64ok 0 ∧ i64ok 4 ∧ i64ok f ∧ -1 ≤ N)
    (hv : Ans3 20 #[.string S, .int .i64 N] 3 at1 0) (hl : AnsB 23 #[.string S, .int .i64 N] true 0) (ht2 : Ans3 20 #[.string S, .int .i64 2520] 1 0 0) (hl2 : AnsB 23 #[.string S, .int .i64 (N + 1)] false 4) (hN20 : N ≤ 20)
    (HJ : i64ok 0 ∧ i64ok 0) (hd : Ans2 21 #[.string S, .int .i64 M] n f) :
    Calls Try.prog 16 #[.agg #[.int .i64 kd, .int .i64 N, .int .i64 M, .string S, .string E]] w fun e w' => e = .returned (.bool true) ∧ Below w.heap.size w w' := by
  obtain ⟨nn, hi0, hi4, hif, hN⟩ := HI
  obtain ⟨hie, hih⟩ := HJ
  have NN : Hid (∀ a, i64ok a → NumT a) := nn
  clear nn
  go_enter Try.func16, Try.ntmps16
  go_wp2_with (go_at_call 22; refine (NN.out _ ?_ _).mono ?_; (first | exact hie | exact hif | exact hih | exact hi0 | exact hi4); rintro e w9 ⟨rfl, rfl⟩)
  refine (hv _).mono ?_
  rintro e w1 ⟨rfl, hb_w1⟩
  obtain ⟨cc_w1, _⟩ := bcellL hb_w1
  have q3 : w1.cell? ⟨w.heap.size, 3, none⟩ = some (.string S) := by rw [cc_w1 _ _ (by simp)]; simp
  have q2 : w1.cell? ⟨w.heap.size, 2, none⟩ = some (.int .i64 M) := by rw [cc_w1 _ _ (by simp)]; simp
  have q1 : w1.cell? ⟨w.heap.size, 1, none⟩ = some (.int .i64 N) := by rw [cc_w1 _ _ (by simp)]; simp
  have zs : w.heap.size < w1.heap.size := by have := hb_w1.size; simp only [World.size_alloc] at this; omega
  have B : Hid (Below w.heap.size w w1) := ((Below.refl _ _).alloc (Nat.le_refl _) _).trans (hb_w1.mono (by simp))
  clear cc_w1 hb_w1
  go_wp2_with (go_at_call 22; refine (NN.out _ ?_ _).mono ?_; (first | exact hie | exact hif | exact hih | exact hi0 | exact hi4); rintro e w9 ⟨rfl, rfl⟩)
  refine (hd _).mono ?_
  rintro e w2 ⟨rfl, hb_w2⟩
  have q3 : w2.cell? ⟨w.heap.size, 3, none⟩ = some (.string S) := (hb_w2.cell (p := ⟨w.heap.size, 3, none⟩) zs).trans q3
  have q2 : w2.cell? ⟨w.heap.size, 2, none⟩ = some (.int .i64 M) := (hb_w2.cell (p := ⟨w.heap.size, 2, none⟩) zs).trans q2
  have q1 : w2.cell? ⟨w.heap.size, 1, none⟩ = some (.int .i64 N) := (hb_w2.cell (p := ⟨w.heap.size, 1, none⟩) zs).trans q1
  have B : Hid (Below w.heap.size w w2) := B.out.trans (hb_w2.mono (Nat.le_of_lt zs))
  have zs : w.heap.size < w2.heap.size := Nat.lt_of_lt_of_le zs hb_w2.size
  clear hb_w2
  go_wp2_with (go_at_call 22; refine (NN.out _ ?_ _).mono ?_; (first | exact hie | exact hif | exact hih | exact hi0 | exact hi4); rintro e w9 ⟨rfl, rfl⟩)
  refine (hl _).mono ?_
  rintro e w4 ⟨rfl, hb_w4⟩
  have q3 : w4.cell? ⟨w.heap.size, 3, none⟩ = some (.string S) := (hb_w4.cell (p := ⟨w.heap.size, 3, none⟩) zs).trans q3
  have q2 : w4.cell? ⟨w.heap.size, 2, none⟩ = some (.int .i64 M) := (hb_w4.cell (p := ⟨w.heap.size, 2, none⟩) zs).trans q2
  have q1 : w4.cell? ⟨w.heap.size, 1, none⟩ = some (.int .i64 N) := (hb_w4.cell (p := ⟨w.heap.size, 1, none⟩) zs).trans q1
  have B : Hid (Below w.heap.size w w4) := B.out.trans (hb_w4.mono (Nat.le_of_lt zs))
  have zs : w.heap.size < w4.heap.size := Nat.lt_of_lt_of_le zs hb_w4.size
  clear hb_w4
  go_wp2_with (go_at_call 22; refine (NN.out _ ?_ _).mono ?_; (first | exact hie | exact hif | exact hih | exact hi0 | exact hi4); rintro e w9 ⟨rfl, rfl⟩)
  refine (ht2 _).mono ?_
  rintro e w5 ⟨rfl, hb_w5⟩
  have q3 : w5.cell? ⟨w.heap.size, 3, none⟩ = some (.string S) := (hb_w5.cell (p := ⟨w.heap.size, 3, none⟩) zs).trans q3
  have q2 : w5.cell? ⟨w.heap.size, 2, none⟩ = some (.int .i64 M) := (hb_w5.cell (p := ⟨w.heap.size, 2, none⟩) zs).trans q2
  have q1 : w5.cell? ⟨w.heap.size, 1, none⟩ = some (.int .i64 N) := (hb_w5.cell (p := ⟨w.heap.size, 1, none⟩) zs).trans q1
  have B : Hid (Below w.heap.size w w5) := B.out.trans (hb_w5.mono (Nat.le_of_lt zs))
  have zs : w.heap.size < w5.heap.size := Nat.lt_of_lt_of_le zs hb_w5.size
  clear hb_w5
  go_wp2_with (go_at_call 22; refine (NN.out _ ?_ _).mono ?_; (first | exact hie | exact hif | exact hih | exact hi0 | exact hi4); rintro e w9 ⟨rfl, rfl⟩)
  refine (hl2 _).mono ?_
  rintro e w6 ⟨rfl, hb_w6⟩
  have q3 : w6.cell? ⟨w.heap.size, 3, none⟩ = some (.string S) := (hb_w6.cell (p := ⟨w.heap.size, 3, none⟩) zs).trans q3
  have q2 : w6.cell? ⟨w.heap.size, 2, none⟩ = some (.int .i64 M) := (hb_w6.cell (p := ⟨w.heap.size, 2, none⟩) zs).trans q2
  have q1 : w6.cell? ⟨w.heap.size, 1, none⟩ = some (.int .i64 N) := (hb_w6.cell (p := ⟨w.heap.size, 1, none⟩) zs).trans q1
  have B : Hid (Below w.heap.size w w6) := B.out.trans (hb_w6.mono (Nat.le_of_lt zs))
  have zs : w.heap.size < w6.heap.size := Nat.lt_of_lt_of_le zs hb_w6.size
  clear hb_w6
  go_wp2_with (go_at_call 22; refine (NN.out _ ?_ _).mono ?_; (first | exact hie | exact hif | exact hih | exact hi0 | exact hi4); rintro e w9 ⟨rfl, rfl⟩)
  go_ret
  exact ⟨rfl, B.out⟩

theorem safe_all (hT : CodeTest) (hD : CodeDemand) (hL : CodeLevel) : SafeT := by
  intro kd N M S E w hkd hN hM hS hE
  unfold opV
  have hta := testAns_ok S.data.toList N
  have hda := demandOf_okL S.data.toList M
  have hla := levelAns_ok S.data.toList N
  have h0 : i64ok 0 := by unfold i64ok; omega
  have h4 : i64ok 4 := by unfold i64ok; omega
  have HT : Ans3 20 #[.string S, .int .i64 N] (testAns S.data.toList N).1.1 (testAns S.data.toList N).1.2 (testAns S.data.toList N).2 := fun w => hT S N w hS hN
  have HD : Ans2 21 #[.string S, .int .i64 M] (demandOf S.data.toList M).1 (demandOf S.data.toList M).2 := fun w => hD S M w hS hM
  have HL : AnsB 23 #[.string S, .int .i64 N] (levelAns S.data.toList N).1 (levelAns S.data.toList N).2 := fun w => hL S N w hS hN
  -- the level's four ways
  have lev : ((levelAns S.data.toList N).2 != 0) = true ∨ ((levelAns S.data.toList N).2 = 0 ∧ (levelAns S.data.toList N).1 = false) ∨
      (levelAns S.data.toList N).2 = 0 ∧ (levelAns S.data.toList N).1 = true ∧ -1 ≤ N ∧ N ≤ 20 ∧ Ans3 20 #[.string S, .int .i64 2520] 1 0 0 ∧
        (AnsB 23 #[.string S, .int .i64 (N + 1)] true 0 ∨ AnsB 23 #[.string S, .int .i64 (N + 1)] false 4) := by
    by_cases e1 : (levelAns S.data.toList N).2 = 0
    · right
      cases e2 : (levelAns S.data.toList N).1
      · left; exact ⟨e1, rfl⟩
      · right
        obtain ⟨_, b1, b2, _, _⟩ := levelAns_yes _ _ e2
        obtain ⟨t1, t2⟩ := safe_level _ _ e2
        have HT2 : Ans3 20 #[.string S, .int .i64 2520] 1 0 0 := fun w => by
          have := hT S 2520 w hS (by unfold i64ok; omega)
          rw [t1] at this
          exact this
        refine ⟨e1, rfl, by omega, b2, HT2, ?_⟩
        have hl2 := fun w => hL S (N + 1) w hS (by unfold i64ok; omega)
        rcases t2 with t2 | t2
        · left; intro w; have := hl2 w; rw [t2] at this; exact this
        · right; intro w; have := hl2 w; rw [t2] at this; exact this
    · left; simpa using e1
  by_cases e1 : (testAns S.data.toList N).2 = 0
  · have hv := safe_verdict S.data.toList N e1
    rw [e1] at HT
    have h1 := fun hv1 hd0 => safe_one S.data.toList N M e1 hv1 hd0
    have hNp : -1 ≤ N := by have := (testAns_zero _ _ e1).2.1; omega
    have hck := (testAns_zero _ _ e1).1
    generalize (testAns S.data.toList N).1.1 = v at *
    generalize (testAns S.data.toList N).1.2 = at1 at *
    generalize (demandOf S.data.toList M).1 = n at *
    generalize (demandOf S.data.toList M).2 = f at *
    generalize (levelAns S.data.toList N).1 = ok at *
    generalize (levelAns S.data.toList N).2 = h at *
    have HI : (∀ a, i64ok a → NumT a) ∧ i64ok 0 ∧ i64ok 4 ∧ i64ok f ∧ -1 ≤ N := ⟨numT, h0, h4, hda.2, hNp⟩
    rcases hv with rfl | ⟨rfl, rfl⟩ | rfl | ⟨u, rfl, rfl, u1, u2, u3⟩
    · by_cases f0 : f = 0
      · have hnM := h1 rfl f0
        rcases lev with l1 | ⟨rfl, rfl⟩ | ⟨rfl, rfl, _, l20, lt, l3 | l4⟩
        · exact safe_C1 0 at1 n f N M ok S E kd w HI HT f0 hnM h HL l1 ⟨h0, hla⟩ HD
        · exact safe_C2 0 at1 n f N M true S E kd w HI HT f0 hnM HL ⟨h0, h0⟩ HD
        · exact safe_C3 0 at1 n f N M true S E kd w HI HT f0 hnM HL lt l3 l20 ⟨h0, h0⟩ HD
        · exact safe_C4 0 at1 n f N M true S E kd w HI HT f0 hnM HL lt l4 l20 ⟨h0, h0⟩ HD
      · have hfz : (f == 0) = false := by simpa using f0
        rcases lev with l1 | ⟨rfl, rfl⟩ | ⟨rfl, rfl, _, l20, lt, l3 | l4⟩
        · exact safe_B1 0 at1 n f N M ok S E kd w HI HT hfz h HL l1 ⟨h0, hla⟩ HD
        · exact safe_B2 0 at1 n f N M true S E kd w HI HT hfz HL ⟨h0, h0⟩ HD
        · exact safe_B3 0 at1 n f N M true S E kd w HI HT hfz HL lt l3 l20 ⟨h0, h0⟩ HD
        · exact safe_B4 0 at1 n f N M true S E kd w HI HT hfz HL lt l4 l20 ⟨h0, h0⟩ HD
    · rcases lev with l1 | ⟨rfl, rfl⟩ | ⟨rfl, rfl, _, l20, lt, l3 | l4⟩
      · exact safe_D1 0 0 n f N M ok S E kd w HI HT h HL l1 ⟨h0, hla⟩ HD
      · exact safe_D2 0 0 n f N M true S E kd w HI HT HL ⟨h0, h0⟩ HD
      · exact safe_D3 0 0 n f N M true S E kd w HI HT HL lt l3 l20 ⟨h0, h0⟩ HD
      · exact safe_D4 0 0 n f N M true S E kd w HI HT HL lt l4 l20 ⟨h0, h0⟩ HD
    · rcases lev with l1 | ⟨rfl, rfl⟩ | ⟨rfl, rfl, _, l20, lt, l3 | l4⟩
      · exact safe_F1 0 at1 n f N M ok S E kd w HI HT h HL l1 ⟨h0, hla⟩ HD
      · exact safe_F2 0 at1 n f N M true S E kd w HI HT HL ⟨h0, h0⟩ HD
      · exact safe_F3 0 at1 n f N M true S E kd w HI HT HL lt l3 l20 ⟨h0, h0⟩ HD
      · exact safe_F4 0 at1 n f N M true S E kd w HI HT HL lt l4 l20 ⟨h0, h0⟩ HD
    · have HK : Ans2 21 #[.string S, .int .i64 (u : Int)] ((wanted (tasksOf S.data.toList) u : Nat) : Int) 0 := fun w => by
        have := hD S (u : Int) w hS (by unfold i64ok; omega)
        rw [demandOf_in _ u hck (by omega)] at this
        exact this
      rcases lev with l1 | ⟨rfl, rfl⟩ | ⟨rfl, rfl, _, l20, lt, l3 | l4⟩
      · exact safe_E1 0 u n f N M ok S E kd w HI _ HT (by omega) HK (by omega) h HL l1 ⟨h0, hla⟩ HD
      · exact safe_E2 0 u n f N M true S E kd w HI _ HT (by omega) HK (by omega) HL ⟨h0, h0⟩ HD
      · exact safe_E3 0 u n f N M true S E kd w HI _ HT (by omega) HK (by omega) HL lt l3 l20 ⟨h0, h0⟩ HD
      · exact safe_E4 0 u n f N M true S E kd w HI _ HT (by omega) HK (by omega) HL lt l4 l20 ⟨h0, h0⟩ HD
  · have he : ((testAns S.data.toList N).2 == 0) = false := by simpa using e1
    rcases lev with l1 | ⟨l1, l2⟩ | ⟨l1, l2, l3, l20, lt, l4⟩
    · by_cases hNp : -1 ≤ N
      · exact safe_A1 _ _ _ _ N M _ S E kd w ⟨numT, h0, h4, hda.2, hNp⟩ _ HT he _ HL l1 ⟨hta.2.2, hla⟩ HD
      · exact safe_A0 _ _ _ _ N M _ S E kd w ⟨numT, h0, h4, hda.2⟩ _ HT he _ HL l1 ⟨hta.2.2, hla⟩ HD
    · exfalso
      have hz : (checkOf S.data.toList).1 = 0 ∧ 1 ≤ N := by
        unfold levelAns at l1
        by_cases c0 : (checkOf S.data.toList).1 = 0
        · rw [if_neg (by simp [c0])] at l1
          by_cases c1 : N < 1 ∨ 20 < N
          · rw [if_pos c1] at l1; simp at l1
          · exact ⟨c0, by omega⟩
        · rw [if_pos c0] at l1; exact absurd l1 c0
      apply e1
      unfold testAns
      rw [if_neg (by simp [hz.1]), if_neg (by omega)]
      split <;> rfl
    · exfalso
      obtain ⟨c0, c1, _, c3, _⟩ := levelAns_yes _ _ l2
      apply e1
      unfold testAns
      rw [if_neg (by simp [c0]), if_neg (by omega), if_neg (by simp [c3])]
end Go.Proofs.Ytdhofmnidlhjpaa
