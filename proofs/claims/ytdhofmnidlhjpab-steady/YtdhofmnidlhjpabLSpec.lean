import Derived.Test.YtdhofmnidlhjpabLUpTo
import Derived.Test.YtdhofmnidlhjpabRWith
import Derived.Test.YtdhofmnidlhjpabRRefuted
import Derived.Test.YtdhofmnidlhjpabRLevel
import Derived.Test.YtdhofmnidlhjpabMath
namespace Go.Proofs.Ytdhofmnidlhjpab
open Go.RowKit

theorem bcellL {W w1 : World} (hb : Below W.heap.size W w1) : (∀ b o, b < W.heap.size → w1.cell? ⟨b, o, none⟩ = W.cell? ⟨b, o, none⟩) ∧ (∀ b o, b < W.heap.size → w1.frozen? ⟨b, o, none⟩ = W.frozen? ⟨b, o, none⟩) :=
  ⟨fun b o h => hb.cell (p := ⟨b, o, none⟩) h, fun b o h => hb.frozen (p := ⟨b, o, none⟩) h⟩

/-! What the program's calls answer: each is to be shown of the code. -/
def CodeCheck : Prop := ∀ (s : ByteArray) (w : World), s.size ≤ maxLen → Calls Try.prog 20 #[.string s] w fun e w' => e = .returned (.tuple #[.int .i64 (checkOf s.data.toList).1, .int .i64 (checkOf s.data.toList).2]) ∧ Below w.heap.size w w'

def CodeDemand : Prop := ∀ (s : ByteArray) (t : Int) (w : World), s.size ≤ maxLen → i64ok t → Calls Try.prog 21 #[.string s, .int .i64 t] w fun e w' => e = .returned (.tuple #[.int .i64 (demandOf s.data.toList t).1, .int .i64 (demandOf s.data.toList t).2]) ∧ Below w.heap.size w w'

def CodeBusy : Prop := ∀ (s : ByteArray) (w : World), s.size ≤ maxLen → Calls Try.prog 22 #[.string s] w fun e w' => e = .returned (.tuple #[.int .i64 (busyAns s.data.toList).1, .int .i64 (busyAns s.data.toList).2]) ∧ Below w.heap.size w w'

def CodeTest : Prop := ∀ (s : ByteArray) (b : Int) (w : World), s.size ≤ maxLen → i64ok b → Calls Try.prog 23 #[.string s, .int .i64 b] w fun e w' => e = .returned (.tuple #[.int .i64 (testAns s.data.toList b).1.1, .int .i64 (testAns s.data.toList b).1.2, .int .i64 (testAns s.data.toList b).2]) ∧ Below w.heap.size w w'

def CodeLevel : Prop := ∀ (s : ByteArray) (k : Int) (w : World), s.size ≤ maxLen → i64ok k → Calls Try.prog 24 #[.string s, .int .i64 k] w fun e w' => e = .returned (.tuple #[.bool (levelAns s.data.toList k).1, .int .i64 (levelAns s.data.toList k).2]) ∧ Below w.heap.size w w'

def CodeRoom : Prop := ∀ (s : ByteArray) (k : Int) (w : World), s.size ≤ maxLen → i64ok k → Calls Try.prog 25 #[.string s, .int .i64 k] w fun e w' => e = .returned (.tuple #[.int .i64 (roomAns s.data.toList k).1, .int .i64 (roomAns s.data.toList k).2]) ∧ Below w.heap.size w w'

/-- Refute answers by a function of the set, within what is free. -/
structure CodeRefute (f : List UInt8 → Int × Int) : Prop where
  may : ∀ l, refutedB l (f l).1 (f l).2 = true
  calls : ∀ (s : ByteArray) (w : World), s.size ≤ maxLen → Calls Try.prog 5 #[.string s] w fun e w' => e = .returned (.tuple #[.int .i64 (f s.data.toList).1, .int .i64 (f s.data.toList).2]) ∧ Below w.heap.size w w'

/-! ### The answers' numbers are small -/
theorem busyAns_ok (l : List UInt8) : i64ok (busyAns l).1 ∧ i64ok (busyAns l).2 := by
  have hk := checkOf_bound l
  have hb := busyOf_le (tasksOf l)
  unfold busyAns i64ok
  split
  · simp only; omega
  · split
    · simp
    · simp only; omega

theorem testAns_ok (l : List UInt8) (b : Int) : i64ok (testAns l b).1.1 ∧ i64ok (testAns l b).1.2 ∧ i64ok (testAns l b).2 := by
  have hk := checkOf_bound l
  have hb := busyOf_le (tasksOf l)
  unfold testAns i64ok
  split
  · simp only; omega
  · split
    · simp
    · split
      · simp
      · rcases testFrom_cases (tasksOf l) b.toNat (busyOf (tasksOf l)) 1 0 with h | h | ⟨u, h1, h2, h3, h4⟩
        · rw [h]; simp
        · rw [h]; simp
        · rw [h4]; simp only; omega

theorem levelAns_ok (l : List UInt8) (k : Int) : i64ok (levelAns l k).2 := by
  have hk := checkOf_bound l
  unfold levelAns i64ok
  split
  · simp only; omega
  · split
    · simp
    · split
      · simp
      · simp

theorem roomFrom_le (l : List Tk) (task : Nat) : ∀ c, roomFrom l task c ≤ c := by
  intro c
  induction c with
  | zero => simp [roomFrom]
  | succ c ih => rw [roomFrom]; split <;> omega

theorem roomAns_ok (l : List UInt8) (k : Int) : i64ok (roomAns l k).1 ∧ i64ok (roomAns l k).2 := by
  have hk := checkOf_bound l
  unfold roomAns i64ok
  split
  · simp only; omega
  · rename_i h1
    split
    · simp
    · rename_i h2
      split
      · simp
      · have hr := roomFrom_le (tasksOf l) k.toNat ((tasksOf l).getD k.toNat ⟨0, 0, 0⟩).d
        have hd : ((tasksOf l).getD k.toNat ⟨0, 0, 0⟩).d ≤ 9 := by
          have hlt : k.toNat < (tasksOf l).length := by omega
          rw [List.getD_eq_getElem?_getD, List.getElem?_eq_getElem hlt, Option.getD_some]
          exact (set_bounds l (by simpa using h1) _ (List.getElem_mem hlt)).2.1
        simp only; omega

theorem refuted_ok (l : List UInt8) (t e : Int) (h : refutedB l t e = true) : i64ok t ∧ i64ok e := by
  have hk := checkOf_bound l
  unfold refutedB at h
  unfold i64ok
  split at h
  · simp only [Bool.and_eq_true, beq_iff_eq] at h; omega
  · split at h
    · simp only [Bool.and_eq_true, beq_iff_eq] at h; omega
    · simp only [Bool.and_eq_true, beq_iff_eq, decide_eq_true_eq] at h; omega

set_option maxRecDepth 100000 in
set_option maxHeartbeats 400000 in
theorem num_ok (a : Int) (w : World) (_h1 : i64ok a) :
    Calls Try.prog 8 #[.int .i64 a] w fun e w' => e = .returned (.int .i64 a) ∧ w' = w := by
  go_enter Try.func8, Try.ntmps8
  go_wp2
  go_ret
  exact ⟨rfl, rfl⟩
end Go.Proofs.Ytdhofmnidlhjpab
