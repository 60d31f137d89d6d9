import Derived.Test.YtbeclgilglepeaaCTasks
import Derived.Test.YtbeclgilglepeaaRCheck
namespace Go.Proofs.Ytbeclgilglepeaa
open Go.RowKit

set_option maxRecDepth 100000 in
set_option maxHeartbeats 1600000 in
theorem first_wrong_task (ao : Option Addr) (n cap : Nat) (L : List Tk) (w : World) (hn : n = L.length) (hl : L.length ≤ 8) (hH : HoldsA w ao L) :
    Calls Try.prog 53 #[.slice ao n cap] w fun e w' => e = .returned (.int .i64 (match badTask L 0 with | some i => (i : Int) | none => -1)) ∧ ∃ q, w' = w.drewN q := by
  have HN : Hid (n = L.length) := hn
  have hn8 : n ≤ 8 := by omega
  clear hn hl
  have HC : Hid (∀ i : Nat, badTask L 0 = some i → (match badTask L 0 with | some i => (i : Int) | none => -1) = (i : Int)) := fun i h => by rw [h]
  have HO : Hid (badTask L 0 = none → (match badTask L 0 with | some i => (i : Int) | none => -1) = -1) := fun h => by rw [h]
  generalize (match badTask L 0 with | some i => (i : Int) | none => -1) = R at *
  go_enter Try.func53, Try.ntmps53
  go_wp2
  go_loopw [3] (fun i wr => ∃ k q : Nat, k ≤ n ∧ i = .int .i64 k ∧ badTask L 0 = badTask (L.drop k) k ∧ wr = w.drewN q) (fun i _ => n - (intOf i).toNat)
  case atStart => exact ⟨0, 0, Nat.zero_le _, rfl, by simp, rfl⟩
  case round =>
    obtain ⟨k, q, hk, rfl, hb, rfl⟩ := hrel
    have HB : Hid (badTask L 0 = badTask (L.drop k) k) := hb
    clear hb
    by_cases hlt : k < n
    · have hkl : k < L.length := by rw [← HN.out]; exact hlt
      obtain ⟨b, rfl, hb, c0, c1, c2⟩ := hH k hkl
      have hdrop := badTask_drop L k hkl
      have hhit := badTask_hit L k hkl
      generalize L[k] = x at *
      obtain ⟨c, d, T⟩ := x
      have H1 : Hid (wrongTk ⟨c, d, T⟩ = false → badTask (L.drop k) k = badTask (L.drop (k + 1)) (k + 1)) := hdrop
      have H2 : Hid (wrongTk ⟨c, d, T⟩ = true → badTask (L.drop k) k = some k) := hhit
      dsimp only at *
      clear hdrop hhit hH
      have g0 : (0 : Int) ≤ (k : Int) := by omega
      have g1 : (k : Int) < (n : Int) := by omega
      by_cases hg1 : d < c
      · have hd1 : decide (d < c) = true := by simpa using hg1
        go_wp2_with fail
        go_quiet (fail)
        go_wp2
        go_ret
        exact ⟨ret_int (HC.out k (by rw [HB.out]; exact H2.out (by simp [wrongTk]; omega))).symm, _, World.drewN_drewN _ _ _⟩
      · have hd1 : decide (d < c) = false := by simpa using hg1
        by_cases hg2 : T < d
        · have hd2 : decide (T < d) = true := by simpa using hg2
          go_wp2_with fail
          go_quiet (fail)
          go_wp2
          go_ret
          exact ⟨ret_int (HC.out k (by rw [HB.out]; exact H2.out (by simp [wrongTk]; omega))).symm, _, World.drewN_drewN _ _ _⟩
        · have hd2 : decide (T < d) = false := by simpa using hg2
          go_wp2_with fail
          go_quiet (fail)
          go_wp2
          go_roundw
          case rel => exact ⟨k + 1, _, by omega, by go_num, by rw [HB.out]; exact H1.out (by simp [wrongTk]; omega), rfl⟩
          case measure => simp [intOf]; omega
    · go_wp2
      go_ret
      exact ⟨ret_int (HO.out (by rw [HB.out]; exact badTask_end L k (by rw [← HN.out]; omega))).symm, q, rfl⟩

theorem bcell {W w1 : World} (hb : Below W.heap.size W w1) : (∀ b o, b < W.heap.size → w1.cell? ⟨b, o, none⟩ = W.cell? ⟨b, o, none⟩) ∧ (∀ b o, b < W.heap.size → w1.frozen? ⟨b, o, none⟩ = W.frozen? ⟨b, o, none⟩) :=
  ⟨fun b o h => hb.cell (p := ⟨b, o, none⟩) h, fun b o h => hb.frozen (p := ⟨b, o, none⟩) h⟩

/-- The program's reading of a text that is no set, or has a task that may not be. -/
def readNo (s : ByteArray) (w : World) : Prop :=
  Calls Try.prog 29 #[.string s] w fun e w' => e = .returned (.agg #[.slice none 0 0, .int .i64 (checkOf s.data.toList).1, .int .i64 (checkOf s.data.toList).2]) ∧ Below w.heap.size w w'

theorem ret_rd {l : List UInt8} {a b : Int} {v : Value} (h : checkOf l = (a, b)) : Ending.returned (.agg #[v, .int .i64 a, .int .i64 b]) = .returned (.agg #[v, .int .i64 (checkOf l).1, .int .i64 (checkOf l).2]) := by rw [h]

set_option maxRecDepth 100000 in
set_option maxHeartbeats 1600000 in
theorem read_long (s : ByteArray) (w : World) (hs : s.size ≤ maxLen) (h1 : 31 < s.size) : readNo s w := by
  unfold readNo
  unfold maxLen at hs
  have HC : Hid (checkOf s.data.toList = (1, 0)) := checkOf_long s.data.toList (by simpa using h1)
  go_enter Try.func29, Try.ntmps29
  go_wp2
  exact bodyPost_ret (v := .agg #[.slice none 0 0, .int .i64 1, .int .i64 0]) (by simp [results, Try.results29, go_sem]) rfl ⟨ret_rd HC.out, (Below.refl _ _).alloc (Nat.le_refl _) _⟩

set_option maxRecDepth 100000 in
set_option maxHeartbeats 1600000 in
theorem read_place (s : ByteArray) (w : World) (h1 : ¬ 31 < s.size) (h2 : 0 ≤ placeOf s.data.toList) : readNo s w := by
  unfold readNo
  have hc := checkOf_place s.data.toList (by simpa using h1) h2
  have hpl := placeOf_lo s.data.toList
  have hct := first_wrong_place s
  generalize placeOf s.data.toList = p at *
  have HC : Hid (checkOf s.data.toList = (2, p)) := hc
  have HT : Hid (∀ (w : World), s.size ≤ 31 → Calls Try.prog 51 #[.string s] w fun e w' => e = .returned (.int .i64 p) ∧ w' = w) := hct
  have hpl2 : p ≤ 31 := by simp at hpl; omega
  clear hc hpl hct
  go_enter Try.func29, Try.ntmps29
  go_wp2_with (go_at_call 51; refine (HT.out _ (by omega)).mono ?_; rintro e w' ⟨rfl, rfl⟩)
  exact bodyPost_ret (v := .agg #[.slice none 0 0, .int .i64 2, .int .i64 p]) (by simp [results, Try.results29, go_sem]) rfl ⟨ret_rd HC.out, (Below.refl _ _).alloc (Nat.le_refl _) _⟩
end Go.Proofs.Ytbeclgilglepeaa
