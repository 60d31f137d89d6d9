/-
  Plain mathematics: what the answers of Test, Demand and Level have to do with one another. No walk.
-/
import Derived.Test.YtdhofmnidlhjpabLSpec
import Derived.Test.YtdhofmnidlhjpabMath
namespace Go.Proofs.Ytdhofmnidlhjpab

theorem set_okTk (l : List UInt8) (h : (checkOf l).1 = 0) : (∀ x ∈ tasksOf l, okTk x) ∧ tasksOf l ≠ [] := by
  obtain ⟨_, _, h1, _, hfi⟩ := set_facts l h
  refine ⟨fun x hx => ?_, fun e => by rw [e] at h1; simp at h1⟩
  have := hfi x hx
  simp only [fine] at this
  unfold okTk
  omega

theorem demandOf_ok (l : List UInt8) (t : Int) (h : (demandOf l t).2 = 0) : (checkOf l).1 = 0 ∧ 0 ≤ t ∧ t ≤ 10000 ∧ (demandOf l t).1 = ((wanted (tasksOf l) t.toNat : Nat) : Int) := by
  unfold demandOf at h ⊢
  by_cases h1 : (checkOf l).1 = 0
  · rw [if_neg (by simp [h1])] at h ⊢
    by_cases h2 : t < 0 ∨ 10000 < t
    · rw [if_pos h2] at h; simp at h
    · rw [if_neg h2]; exact ⟨h1, by omega, by omega, rfl⟩
  · rw [if_pos h1] at h; exact absurd h h1

theorem demandOf_in (l : List UInt8) (t : Nat) (h : (checkOf l).1 = 0) (ht : t ≤ 10000) : demandOf l (t : Int) = (((wanted (tasksOf l) t : Nat) : Int), 0) := by
  unfold demandOf
  rw [if_neg (by simp [h]), if_neg (by omega), Int.toNat_natCast]

/-- Test's answers where it does not refuse. -/
theorem testAns_zero (l : List UInt8) (b : Int) (h : (testAns l b).2 = 0) : (checkOf l).1 = 0 ∧ 0 ≤ b ∧
    ((testAns l b).1 = (2, 0) ∧ heavyB (tasksOf l) = true ∨ heavyB (tasksOf l) = false ∧ (testAns l b).1 = testFrom (tasksOf l) b.toNat (busyOf (tasksOf l)) 1 0) := by
  unfold testAns at h ⊢
  by_cases h1 : (checkOf l).1 = 0
  · rw [if_neg (by simp [h1])] at h ⊢
    by_cases h2 : b < 0
    · rw [if_pos h2] at h; simp at h
    · rw [if_neg h2] at h ⊢
      by_cases h3 : heavyB (tasksOf l) = true
      · rw [if_pos h3]; exact ⟨h1, by omega, Or.inl ⟨rfl, h3⟩⟩
      · rw [if_neg h3]; exact ⟨h1, by omega, Or.inr ⟨by simpa using h3, rfl⟩⟩
  · rw [if_pos h1] at h; exact absurd h h1

theorem safe_verdict (l : List UInt8) (b : Int) (h : (testAns l b).2 = 0) : (testAns l b).1.1 = 1 ∨ (testAns l b).1.1 = 2 ∧ (testAns l b).1.2 = 0 ∨ (testAns l b).1.1 = 3 ∨
    ∃ u : Nat, (testAns l b).1.1 = 2 ∧ (testAns l b).1.2 = (u : Int) ∧ 1 ≤ u ∧ u ≤ 2520 ∧ u < wanted (tasksOf l) u := by
  obtain ⟨_, _, h3 | ⟨_, h4⟩⟩ := testAns_zero l b h
  · right; left; rw [h3.1]; exact ⟨rfl, rfl⟩
  · rw [h4]
    have hb := busyOf_le (tasksOf l)
    rcases testFrom_cases (tasksOf l) b.toNat (busyOf (tasksOf l)) 1 0 with e | e | ⟨u, a1, a2, a3, e⟩
    · left; rw [e]
    · right; right; left; rw [e]
    · right; right; right; rw [e]; exact ⟨u, rfl, rfl, a1, by omega, a3⟩

theorem safe_one (l : List UInt8) (b m : Int) (h : (testAns l b).2 = 0) (hv : (testAns l b).1.1 = 1) (hd : (demandOf l m).2 = 0) : (demandOf l m).1 ≤ m := by
  obtain ⟨h1, hm0, hm1, hm2⟩ := demandOf_ok l m hd
  obtain ⟨hl, hne⟩ := set_okTk l h1
  obtain ⟨_, _, h3 | ⟨h3, h4⟩⟩ := testAns_zero l b h
  · rw [h3.1] at hv; simp at hv
  · rw [h4] at hv
    have := test_one_all (tasksOf l) hl hne h3 b.toNat hv m.toNat
    rw [hm2]
    omega

theorem levelAns_yes (l : List UInt8) (k : Int) (h : (levelAns l k).1 = true) : (checkOf l).1 = 0 ∧ 1 ≤ k ∧ k ≤ 20 ∧ heavyB (tasksOf l) = false ∧ levelAll (tasksOf l) k.toNat (tasksOf l) = true := by
  unfold levelAns at h
  by_cases h1 : (checkOf l).1 = 0
  · rw [if_neg (by simp [h1])] at h
    by_cases h2 : k < 1 ∨ 20 < k
    · rw [if_pos h2] at h; simp at h
    · rw [if_neg h2] at h
      by_cases h3 : heavyB (tasksOf l) = true
      · rw [if_pos h3] at h; simp at h
      · rw [if_neg h3] at h; exact ⟨h1, by omega, by omega, by simpa using h3, h⟩
  · rw [if_pos h1] at h; simp at h

/-- A set that is feasible: Test says 1. -/
theorem test_feas (l : List UInt8) (h1 : (checkOf l).1 = 0) (h : feasB (tasksOf l) = true) : testAns l 2520 = ((1, 0), 0) := by
  obtain ⟨hl, hne⟩ := set_okTk l h1
  obtain ⟨h2, h3⟩ := feas_test (tasksOf l) hl h 2520 (Nat.le_refl _)
  unfold testAns
  rw [if_neg (by simp [h1]), if_neg (by omega), if_neg (by simp [h2])]
  show (testFrom (tasksOf l) 2520 (busyOf (tasksOf l)) 1 0, 0) = _
  rw [h3]

theorem safe_level (l : List UInt8) (k : Int) (h : (levelAns l k).1 = true) : testAns l 2520 = ((1, 0), 0) ∧ (levelAns l (k + 1) = (true, 0) ∨ levelAns l (k + 1) = (false, 4)) := by
  obtain ⟨h1, h2, h3, h4, h5⟩ := levelAns_yes l k h
  obtain ⟨hl, hne⟩ := set_okTk l h1
  refine ⟨test_feas l h1 (all_feas _ (level_all (tasksOf l) hl h4 k.toNat (by omega) h5)), ?_⟩
  by_cases h6 : k = 20
  · right
    unfold levelAns
    rw [if_neg (by simp [h1]), if_pos (by omega)]
  · left
    unfold levelAns
    rw [if_neg (by simp [h1]), if_neg (by omega), if_neg (by simp [h4])]
    rw [show (k + 1).toNat = k.toNat + 1 by omega, level_next (tasksOf l) hl h4 k.toNat (by omega) h5]
end Go.Proofs.Ytdhofmnidlhjpab
