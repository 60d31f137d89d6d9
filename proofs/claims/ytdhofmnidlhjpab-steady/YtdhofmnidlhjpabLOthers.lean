import Derived.Test.YtdhofmnidlhjpabLUpTo
import Derived.Deep.RegionHeld3
namespace Go.Proofs.Ytdhofmnidlhjpab
open Go.RowKit

theorem bcellO {W w1 : World} (hb : Below W.heap.size W w1) : ∀ b o, b < W.heap.size → w1.cell? ⟨b, o, none⟩ = W.cell? ⟨b, o, none⟩ := fun b o h => hb.cell (p := ⟨b, o, none⟩) h

/-- A call that ends well, whatever it answers. -/
def Ends (f : Nat) (args : Array Value) : Prop := ∀ w : World, Calls Try.prog f args w fun e w' => (∃ v, e = .returned v) ∧ Below w.heap.size w w'

theorem ends_of {f : Nat} {args : Array Value} {v : Value} (h : ∀ w : World, Calls Try.prog f args w fun e w' => e = .returned v ∧ Below w.heap.size w w') : Ends f args :=
  fun w => (h w).mono fun _ _ ⟨a, b⟩ => ⟨⟨v, a⟩, b⟩

set_option maxRecDepth 100000 in
set_option maxHeartbeats 1600000 in
theorem others_ok (N M kd : Int) (S E : ByteArray) (w : World) (h1 : Ends 20 #[.string S]) (h2 : Ends 21 #[.string S, .int .i64 N]) (h3 : Ends 22 #[.string S]) (h4 : Ends 23 #[.string S, .int .i64 N])
    (h5 : Ends 24 #[.string S, .int .i64 N]) (h6 : Ends 5 #[.string S]) (h7 : Ends 25 #[.string S, .int .i64 N]) (h8 : Ends 26 #[.string S, .string E]) (h9 : Ends 27 #[.string S, .string E]) (h10 : Ends 6 #[.string S]) :
    Calls Try.prog 10 #[.agg #[.int .i64 kd, .int .i64 N, .int .i64 M, .string S, .string E]] w fun e w' => e = .returned (.tuple #[]) ∧ Below w.heap.size w w' := by
  go_enter Try.func10, Try.ntmps10
  go_wp2_with fail
  refine (h1 _).mono ?_
  rintro e w1 ⟨⟨v1, rfl⟩, hb1⟩
  have cc1 := bcellO hb1
  have q1 : w1.cell? ⟨w.heap.size, 1, none⟩ = some (.int .i64 N) := by rw [cc1 _ _ (by simp)]; simp
  have q3 : w1.cell? ⟨w.heap.size, 3, none⟩ = some (.string S) := by rw [cc1 _ _ (by simp)]; simp
  have q4 : w1.cell? ⟨w.heap.size, 4, none⟩ = some (.string E) := by rw [cc1 _ _ (by simp)]; simp
  have zs : w.heap.size < w1.heap.size := by have := hb1.size; simp only [World.size_alloc] at this; omega
  have B : Hid (Below w.heap.size w w1) := ((Below.refl _ _).alloc (Nat.le_refl _) _).trans (hb1.mono (by simp))
  clear cc1 hb1 h1
  go_wp2_with fail
  refine (h2 _).mono ?_
  rintro e w2 ⟨⟨v2, rfl⟩, hb⟩
  have q1 : w2.cell? ⟨w.heap.size, 1, none⟩ = some (.int .i64 N) := (hb.cell (p := ⟨w.heap.size, 1, none⟩) zs).trans q1
  have q3 : w2.cell? ⟨w.heap.size, 3, none⟩ = some (.string S) := (hb.cell (p := ⟨w.heap.size, 3, none⟩) zs).trans q3
  have q4 : w2.cell? ⟨w.heap.size, 4, none⟩ = some (.string E) := (hb.cell (p := ⟨w.heap.size, 4, none⟩) zs).trans q4
  have B : Hid (Below w.heap.size w w2) := B.out.trans (hb.mono (Nat.le_of_lt zs))
  have zs : w.heap.size < w2.heap.size := Nat.lt_of_lt_of_le zs hb.size
  clear hb h2
  go_wp2_with fail
  refine (h3 _).mono ?_
  rintro e w3 ⟨⟨v3, rfl⟩, hb⟩
  have q1 : w3.cell? ⟨w.heap.size, 1, none⟩ = some (.int .i64 N) := (hb.cell (p := ⟨w.heap.size, 1, none⟩) zs).trans q1
  have q3 : w3.cell? ⟨w.heap.size, 3, none⟩ = some (.string S) := (hb.cell (p := ⟨w.heap.size, 3, none⟩) zs).trans q3
  have q4 : w3.cell? ⟨w.heap.size, 4, none⟩ = some (.string E) := (hb.cell (p := ⟨w.heap.size, 4, none⟩) zs).trans q4
  have B : Hid (Below w.heap.size w w3) := B.out.trans (hb.mono (Nat.le_of_lt zs))
  have zs : w.heap.size < w3.heap.size := Nat.lt_of_lt_of_le zs hb.size
  clear hb h3
  go_wp2_with fail
  refine (h4 _).mono ?_
  rintro e w4 ⟨⟨v4, rfl⟩, hb⟩
  have q1 : w4.cell? ⟨w.heap.size, 1, none⟩ = some (.int .i64 N) := (hb.cell (p := ⟨w.heap.size, 1, none⟩) zs).trans q1
  have q3 : w4.cell? ⟨w.heap.size, 3, none⟩ = some (.string S) := (hb.cell (p := ⟨w.heap.size, 3, none⟩) zs).trans q3
  have q4 : w4.cell? ⟨w.heap.size, 4, none⟩ = some (.string E) := (hb.cell (p := ⟨w.heap.size, 4, none⟩) zs).trans q4
  have B : Hid (Below w.heap.size w w4) := B.out.trans (hb.mono (Nat.le_of_lt zs))
  have zs : w.heap.size < w4.heap.size := Nat.lt_of_lt_of_le zs hb.size
  clear hb h4
  go_wp2_with fail
  refine (h5 _).mono ?_
  rintro e w5 ⟨⟨v5, rfl⟩, hb⟩
  have q1 : w5.cell? ⟨w.heap.size, 1, none⟩ = some (.int .i64 N) := (hb.cell (p := ⟨w.heap.size, 1, none⟩) zs).trans q1
  have q3 : w5.cell? ⟨w.heap.size, 3, none⟩ = some (.string S) := (hb.cell (p := ⟨w.heap.size, 3, none⟩) zs).trans q3
  have q4 : w5.cell? ⟨w.heap.size, 4, none⟩ = some (.string E) := (hb.cell (p := ⟨w.heap.size, 4, none⟩) zs).trans q4
  have B : Hid (Below w.heap.size w w5) := B.out.trans (hb.mono (Nat.le_of_lt zs))
  have zs : w.heap.size < w5.heap.size := Nat.lt_of_lt_of_le zs hb.size
  clear hb h5
  go_wp2_with fail
  refine (h6 _).mono ?_
  rintro e w6 ⟨⟨v6, rfl⟩, hb⟩
  have q1 : w6.cell? ⟨w.heap.size, 1, none⟩ = some (.int .i64 N) := (hb.cell (p := ⟨w.heap.size, 1, none⟩) zs).trans q1
  have q3 : w6.cell? ⟨w.heap.size, 3, none⟩ = some (.string S) := (hb.cell (p := ⟨w.heap.size, 3, none⟩) zs).trans q3
  have q4 : w6.cell? ⟨w.heap.size, 4, none⟩ = some (.string E) := (hb.cell (p := ⟨w.heap.size, 4, none⟩) zs).trans q4
  have B : Hid (Below w.heap.size w w6) := B.out.trans (hb.mono (Nat.le_of_lt zs))
  have zs : w.heap.size < w6.heap.size := Nat.lt_of_lt_of_le zs hb.size
  clear hb h6
  go_wp2_with fail
  refine (h7 _).mono ?_
  rintro e w7 ⟨⟨v7, rfl⟩, hb⟩
  have q1 : w7.cell? ⟨w.heap.size, 1, none⟩ = some (.int .i64 N) := (hb.cell (p := ⟨w.heap.size, 1, none⟩) zs).trans q1
  have q3 : w7.cell? ⟨w.heap.size, 3, none⟩ = some (.string S) := (hb.cell (p := ⟨w.heap.size, 3, none⟩) zs).trans q3
  have q4 : w7.cell? ⟨w.heap.size, 4, none⟩ = some (.string E) := (hb.cell (p := ⟨w.heap.size, 4, none⟩) zs).trans q4
  have B : Hid (Below w.heap.size w w7) := B.out.trans (hb.mono (Nat.le_of_lt zs))
  have zs : w.heap.size < w7.heap.size := Nat.lt_of_lt_of_le zs hb.size
  clear hb h7
  go_wp2_with fail
  refine (h8 _).mono ?_
  rintro e w8 ⟨⟨v8, rfl⟩, hb⟩
  have q1 : w8.cell? ⟨w.heap.size, 1, none⟩ = some (.int .i64 N) := (hb.cell (p := ⟨w.heap.size, 1, none⟩) zs).trans q1
  have q3 : w8.cell? ⟨w.heap.size, 3, none⟩ = some (.string S) := (hb.cell (p := ⟨w.heap.size, 3, none⟩) zs).trans q3
  have q4 : w8.cell? ⟨w.heap.size, 4, none⟩ = some (.string E) := (hb.cell (p := ⟨w.heap.size, 4, none⟩) zs).trans q4
  have B : Hid (Below w.heap.size w w8) := B.out.trans (hb.mono (Nat.le_of_lt zs))
  have zs : w.heap.size < w8.heap.size := Nat.lt_of_lt_of_le zs hb.size
  clear hb h8
  go_wp2_with fail
  refine (h9 _).mono ?_
  rintro e w9 ⟨⟨v9, rfl⟩, hb⟩
  have q1 : w9.cell? ⟨w.heap.size, 1, none⟩ = some (.int .i64 N) := (hb.cell (p := ⟨w.heap.size, 1, none⟩) zs).trans q1
  have q3 : w9.cell? ⟨w.heap.size, 3, none⟩ = some (.string S) := (hb.cell (p := ⟨w.heap.size, 3, none⟩) zs).trans q3
  have q4 : w9.cell? ⟨w.heap.size, 4, none⟩ = some (.string E) := (hb.cell (p := ⟨w.heap.size, 4, none⟩) zs).trans q4
  have B : Hid (Below w.heap.size w w9) := B.out.trans (hb.mono (Nat.le_of_lt zs))
  have zs : w.heap.size < w9.heap.size := Nat.lt_of_lt_of_le zs hb.size
  clear hb h9
  go_wp2_with fail
  refine (h10 _).mono ?_
  rintro e w10 ⟨⟨v10, rfl⟩, hb⟩
  have q1 : w10.cell? ⟨w.heap.size, 1, none⟩ = some (.int .i64 N) := (hb.cell (p := ⟨w.heap.size, 1, none⟩) zs).trans q1
  have q3 : w10.cell? ⟨w.heap.size, 3, none⟩ = some (.string S) := (hb.cell (p := ⟨w.heap.size, 3, none⟩) zs).trans q3
  have q4 : w10.cell? ⟨w.heap.size, 4, none⟩ = some (.string E) := (hb.cell (p := ⟨w.heap.size, 4, none⟩) zs).trans q4
  have B : Hid (Below w.heap.size w w10) := B.out.trans (hb.mono (Nat.le_of_lt zs))
  have zs : w.heap.size < w10.heap.size := Nat.lt_of_lt_of_le zs hb.size
  clear hb h10
  go_wp2
  go_end0
  exact ⟨rfl, B.out⟩
end Go.Proofs.Ytdhofmnidlhjpab
