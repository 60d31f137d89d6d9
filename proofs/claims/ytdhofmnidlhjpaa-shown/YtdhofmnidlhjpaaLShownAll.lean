import Derived.Test.YtdhofmnidlhjpaaLShown
namespace Go.Proofs.Ytdhofmnidlhjpaa
open Go.RowKit

theorem run_empty (l : List UInt8) : (runAns l []).2 = if (checkOf l).1 ≠ 0 then (checkOf l).1 else if feasB (tasksOf l) = false then 6 else 0 := by
  have hf : freeAns l [] = ([], (checkOf l).1) := by
    unfold freeAns
    by_cases h0 : 31 < l.length
    · rw [if_pos (Or.inl h0), checkOf_long l h0]
    · rw [if_neg (by simp; omega)]
      by_cases h1 : (checkOf l).1 ≠ 0
      · rw [if_pos h1]
      · rw [if_neg h1, if_neg (by simp [evOk])]
        have : (checkOf l).1 = 0 := by simpa using h1
        rw [this]; rfl
  unfold runAns
  rw [hf]
  by_cases h1 : (checkOf l).1 ≠ 0
  · rw [if_pos h1, if_pos h1]
  · rw [if_neg h1, if_neg h1]
    by_cases h2 : feasB (tasksOf l) = false
    · rw [if_pos h2, if_pos h2]
    · rw [if_neg h2, if_neg h2]; simpa using h1

theorem star_facts (tr : List UInt8) (h3 : noBad tr = true) (h4 : endStar tr = true) (X : ByteArray) (hX : X = ⟨tr.toArray⟩) :
    X.toList.isEmpty = false ∧ (∀ i, (hi : i < X.size) → X[i].toNat ≠ 63 ∧ X[i].toNat ≠ 33) ∧ (∀ (hi : X.size - 1 < X.size), X[X.size - 1].toNat = 42) ∧ 0 < X.size ∧ X.size = tr.length := by
  unfold endStar at h4
  simp only [Bool.and_eq_true, decide_eq_true_eq, beq_iff_eq] at h4
  have hsz : X.size = tr.length := by rw [hX]; show tr.toArray.size = _; simp
  refine ⟨?_, ?_, ?_, by omega, hsz⟩
  · rw [ByteArray.toList_eq, hX]; simp; intro e; rw [e] at h4; simp at h4
  · intro i hi
    subst hX
    exact noBad_at tr h3 i (by rw [← hsz]; exact hi)
  · intro hi
    subst hX
    have := h4.2
    rw [List.getD_eq_getElem?_getD, List.getElem?_eq_getElem (by omega), Option.getD_some] at this
    simp only [hsz]
    exact this

theorem shown_all (f : List UInt8 → Int × Int) (g : List UInt8 → List UInt8 × Int) (hR : CodeRefute f) (hB : CodeBreak g) (hRun : CodeRun) (hT : CodeTest) (hD : CodeDemand) (hF : CodeFree) : ShownT := by
  intro kd N M S E w hkd hN hM hS hE
  unfold opV
  have h1 := hR.may S.data.toList
  have h2 := hB.may S.data.toList
  have hck := checkOf_bound S.data.toList
  have HR : Ans2 27 #[.string S] (f S.data.toList).1 (f S.data.toList).2 := fun w => hR.calls S w hS
  have HB : AnsS 28 #[.string S] ⟨(g S.data.toList).1.toArray⟩ (g S.data.toList).2 := fun w => hB.calls S w hS
  have HRun : AnsS 24 #[.string S, .string ⟨#[]⟩] ⟨(runAns S.data.toList []).1.toArray⟩ (runAns S.data.toList []).2 := fun w => hRun S ⟨#[]⟩ w hS (by show (0 : Nat) ≤ _; unfold maxLen; omega)
  rw [run_empty] at HRun
  unfold refutedB at h1
  have hbl := (broken_ok _ _ _ h2).2
  unfold brokenB at h2
  by_cases c0 : (checkOf S.data.toList).1 = 0
  · rw [if_neg (by simp [c0])] at h1 h2 HRun
    cases hfe : feasB (tasksOf S.data.toList)
    · rw [if_neg (by simp [hfe])] at h1 h2
      rw [if_pos hfe] at HRun
      simp only [Bool.and_eq_true, beq_iff_eq, decide_eq_true_eq] at h1 h2
      obtain ⟨⟨⟨e1, t1⟩, t2⟩, t3⟩ := h1
      obtain ⟨⟨⟨e2, b1⟩, b2⟩, b3⟩ := h2
      rw [e1] at HR
      rw [e2] at HB
      generalize (f S.data.toList).1 = t at *
      obtain ⟨u, rfl⟩ := Int.eq_ofNat_of_zero_le (show 0 ≤ t by omega)
      have HDm : Ans2 21 #[.string S, .int .i64 (u : Int)] ((wanted (tasksOf S.data.toList) u : Nat) : Int) 0 := fun w => by
        have := hD S (u : Int) w hS (by unfold i64ok; omega)
        rw [demandOf_in _ u c0 (by omega)] at this
        exact this
      have HFr : AnsS 29 #[.string S, .string ⟨(g S.data.toList).1.toArray⟩] ⟨(freeAns S.data.toList (g S.data.toList).1).1.toArray⟩ 0 := fun w => by
        have := hF S ⟨(g S.data.toList).1.toArray⟩ w hS (by show (g S.data.toList).1.toArray.size ≤ _; unfold maxLen; simp; omega)
        simp only [b1] at this
        exact this
      have hfl := free_len S.data.toList (g S.data.toList).1
      obtain ⟨s1, s2, s3, s4, s5⟩ := star_facts _ b2 b3 _ rfl
      refine shown_late u _ N M kd _ _ _ S E w (numT 6 (by unfold i64ok; omega)) (numT 0 (by unfold i64ok; omega)) ?_ HR HB HRun HDm HFr s1 s2 s3 s4 (by omega)
      rw [Int.toNat_natCast] at t3
      exact t3
    · rw [if_pos hfe] at h1 h2
      rw [if_neg (by simp [hfe])] at HRun
      simp only [Bool.and_eq_true, beq_iff_eq] at h1 h2
      rw [h1.1] at HR
      rw [h2.1] at HB
      have HTs : Ans3 20 #[.string S, .int .i64 2520] 1 0 0 := fun w => by
        have := hT S 2520 w hS (by unfold i64ok; omega)
        rw [test_feas _ c0 hfe] at this
        exact this
      exact shown_fits _ N M kd _ _ S E w (numT 7 (by unfold i64ok; omega)) (numT 0 (by unfold i64ok; omega)) HR HB HRun HTs
  · rw [if_pos c0] at h1 h2 HRun
    simp only [Bool.and_eq_true, beq_iff_eq] at h1 h2
    rw [h1.1] at HR
    rw [h2.1] at HB
    generalize (checkOf S.data.toList).1 = c at *
    exact shown_no c _ N M kd _ _ S E w (numT c (by unfold i64ok; omega)) (by simp; omega) (by simpa using c0) HR HB HRun
end Go.Proofs.Ytdhofmnidlhjpaa
