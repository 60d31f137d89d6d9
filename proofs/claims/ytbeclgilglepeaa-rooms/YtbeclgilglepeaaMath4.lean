/-
  Plain mathematics: a level that is passed. No program, no walk.
-/
import Derived.Test.YtbeclgilglepeaaMath3
namespace Go.Proofs.Ytbeclgilglepeaa

theorem mul_span (c T q m S : Nat) (h : T * m = S) : c * (T * q) * m = S * (c * q) := by subst h; ac_rfl
theorem mul_span2 (c T m S : Nat) (h : T * m = S) : c * T * m = S * c := by subst h; ac_rfl

/-- A level counts no less than what is wanted. -/
theorem even_ge (x : Tk) (hx : okTk x) (k t : Nat) (hk : 1 ≤ k) : 2520 * wantedOne x t ≤ evenOf x k t := by
  unfold okTk at hx
  have hd := dvd2520 x.t (by omega) (by omega)
  unfold wantedOne evenOf
  by_cases h1 : x.d ≤ t
  · rw [if_pos h1, if_neg (by omega)]
    by_cases h2 : t ≤ x.d + (k - 1) * x.t
    · rw [if_pos h2, Nat.mul_assoc]; omega
    · rw [if_neg h2]
      obtain ⟨r, hr⟩ : ∃ r, r = t - (x.d + (k - 1) * x.t) := ⟨_, rfl⟩
      have e : t - x.d = (k - 1) * x.t + r := by omega
      rw [← hr, e, Nat.mul_comm (k - 1) x.t, Nat.mul_add_div (by omega)]
      have h3 : x.t * (r / x.t) ≤ r := Nat.mul_div_le r x.t
      have h4 : x.c * (x.t * (r / x.t)) * (2520 / x.t) ≤ x.c * r * (2520 / x.t) := Nat.mul_le_mul_right _ (Nat.mul_le_mul_left _ h3)
      have e2 : x.c * (x.t * (r / x.t)) * (2520 / x.t) = 2520 * (x.c * (r / x.t)) := mul_span _ _ _ _ _ hd
      have e3 : 2520 * (x.c * (k - 1 + r / x.t + 1)) = 2520 * k * x.c + 2520 * (x.c * (r / x.t)) := by
        rw [show k - 1 + r / x.t + 1 = k + r / x.t by omega, Nat.mul_add, Nat.mul_add]
        congr 1
        rw [Nat.mul_comm x.c k, ← Nat.mul_assoc]
      rw [e3]
      omega
  · rw [if_neg h1]; omega

theorem evens_ge (l : List Tk) (hl : ∀ x ∈ l, okTk x) (k t : Nat) (hk : 1 ≤ k) : 2520 * wanted l t ≤ evens l k t := by
  induction l with
  | nil => simp [wanted]
  | cons x r ih =>
    have h1 := even_ge x (hl x (by simp)) k t hk
    have h2 := ih (fun y hy => hl y (by simp [hy]))
    simp only [wanted, evens, Nat.mul_add]
    omega

/-- A point of level k of a task. -/
def lpt (x : Tk) (k t : Nat) : Prop := ∃ j, j < k ∧ t = x.d + j * x.t

/-- From t to t + 1, a time that is no point of the task, its count grows by no more than its share. -/
theorem even_step (x : Tk) (hx : okTk x) (k t : Nat) (hk : 1 ≤ k) (hp : ¬ lpt x k (t + 1)) : evenOf x k (t + 1) ≤ evenOf x k t + x.c * (2520 / x.t) := by
  unfold okTk at hx
  unfold evenOf
  by_cases h1 : t + 1 < x.d
  · rw [if_pos h1, if_pos (by omega)]; omega
  · rw [if_neg h1]
    have h1' : x.d ≤ t := by
      rcases Nat.lt_or_ge t x.d with h | h
      · exact absurd ⟨0, by omega, by omega⟩ hp
      · exact h
    rw [if_neg (show ¬ t < x.d by omega)]
    by_cases h2 : t + 1 ≤ x.d + (k - 1) * x.t
    · rw [if_pos h2, if_pos (by omega)]
      have h3 : ¬ (t - x.d + 1) % x.t = 0 := by
        intro e
        have hdm := Nat.div_add_mod (t - x.d + 1) x.t
        rw [e, Nat.add_zero] at hdm
        refine hp ⟨(t - x.d + 1) / x.t, ?_, by rw [Nat.mul_comm]; omega⟩
        have h4 : x.t * ((t - x.d + 1) / x.t) ≤ x.t * (k - 1) := by rw [hdm, Nat.mul_comm x.t]; omega
        have h5 := Nat.le_of_mul_le_mul_left h4 (by omega)
        omega
      rw [show t + 1 - x.d = t - x.d + 1 by omega, div_step x.t _ h3]
      omega
    · rw [if_neg h2]
      by_cases h3 : t ≤ x.d + (k - 1) * x.t
      · rw [if_pos h3]
        have e : t - x.d = (k - 1) * x.t := by omega
        rw [e, Nat.mul_div_cancel _ (by omega), show t + 1 - (x.d + (k - 1) * x.t) = 1 by omega, Nat.mul_one]
        rw [show k - 1 + 1 = k by omega]
        have : 2520 * k * x.c = 2520 * x.c * k := by ac_rfl
        omega
      · rw [if_neg h3, show t + 1 - (x.d + (k - 1) * x.t) = (t - (x.d + (k - 1) * x.t)) + 1 by omega, Nat.mul_add, Nat.mul_one, Nat.add_mul]
        omega

theorem evens_step (l : List Tk) (hl : ∀ x ∈ l, okTk x) (k t : Nat) (hk : 1 ≤ k) (hp : ∀ x ∈ l, ¬ lpt x k (t + 1)) : evens l k (t + 1) ≤ evens l k t + loadOf l := by
  induction l with
  | nil => simp [evens]
  | cons x r ih =>
    have h1 := even_step x (hl x (by simp)) k t hk (hp x (by simp))
    have h2 := ih (fun y hy => hl y (by simp [hy])) (fun y hy => hp y (by simp [hy]))
    simp only [evens, loadOf]
    omega

theorem evens_zero (l : List Tk) (hl : ∀ x ∈ l, okTk x) (k : Nat) : evens l k 0 = 0 := by
  induction l with
  | nil => rfl
  | cons x r ih =>
    have hx := hl x (by simp)
    unfold okTk at hx
    rw [evens, ih (fun y hy => hl y (by simp [hy])), evenOf, if_pos (by omega)]

/-- A level that is passed: at every time the count fits. -/
theorem level_fits (l : List Tk) (hl : ∀ x ∈ l, okTk x) (hh : heavyB l = false) (k : Nat) (hk : 1 ≤ k) (h : levelAll l k l = true) : ∀ t, evens l k t ≤ 2520 * t := by
  have hload : loadOf l ≤ 2520 := by simpa [heavyB] using hh
  have hpts := (levelAll_iff l k l).1 h
  intro t
  induction t with
  | zero => rw [evens_zero l hl]; omega
  | succ t ih =>
    by_cases hp : ∃ x ∈ l, lpt x k (t + 1)
    · obtain ⟨x, hx, j, hj, e⟩ := hp
      have := hpts x hx j hj
      rw [← e] at this
      simpa [fitsB] using this
    · have := evens_step l hl k t hk (fun x hx hq => hp ⟨x, hx, hq⟩)
      omega

theorem level_all (l : List Tk) (hl : ∀ x ∈ l, okTk x) (hh : heavyB l = false) (k : Nat) (hk : 1 ≤ k) (h : levelAll l k l = true) : ∀ t, wanted l t ≤ t := by
  intro t
  have h1 := level_fits l hl hh k hk h t
  have h2 := evens_ge l hl k t hk
  omega

/-- The next level counts no more. -/
theorem even_next (x : Tk) (hx : okTk x) (k t : Nat) (hk : 1 ≤ k) : evenOf x (k + 1) t ≤ evenOf x k t := by
  unfold okTk at hx
  have hd := dvd2520 x.t (by omega) (by omega)
  unfold evenOf
  by_cases h1 : t < x.d
  · rw [if_pos h1, if_pos h1]; omega
  · rw [if_neg h1, if_neg h1]
    obtain ⟨j, rfl⟩ : ∃ j, k = j + 1 := ⟨k - 1, by omega⟩
    rw [show j + 1 + 1 - 1 = j + 1 by omega, show j + 1 - 1 = j by omega]
    have e0 : (j + 1) * x.t = j * x.t + x.t := by rw [Nat.add_mul, Nat.one_mul]
    by_cases h2 : t ≤ x.d + j * x.t
    · rw [if_pos h2, if_pos (by omega)]; omega
    · rw [if_neg h2]
      obtain ⟨r, hr⟩ : ∃ r, r = t - (x.d + j * x.t) := ⟨_, rfl⟩
      rw [← hr]
      by_cases h3 : t ≤ x.d + (j + 1) * x.t
      · rw [if_pos h3]
        have e : t - x.d = x.t * j + r := by rw [Nat.mul_comm]; omega
        rw [e, Nat.mul_add_div (by omega)]
        have h4 : x.t * (r / x.t) ≤ r := Nat.mul_div_le r x.t
        have h5 : x.c * (x.t * (r / x.t)) * (2520 / x.t) ≤ x.c * r * (2520 / x.t) := Nat.mul_le_mul_right _ (Nat.mul_le_mul_left _ h4)
        have e2 : x.c * (x.t * (r / x.t)) * (2520 / x.t) = 2520 * x.c * (r / x.t) := by rw [mul_span _ _ _ _ _ hd, Nat.mul_assoc]
        have e3 : 2520 * x.c * (j + r / x.t + 1) = 2520 * (j + 1) * x.c + 2520 * x.c * (r / x.t) := by
          rw [show j + r / x.t + 1 = (j + 1) + r / x.t by omega, Nat.mul_add]
          congr 1
          ac_rfl
        rw [e3]
        omega
      · rw [if_neg h3]
        obtain ⟨q, hq⟩ : ∃ q, q = t - (x.d + (j + 1) * x.t) := ⟨_, rfl⟩
        have er : r = x.t + q := by omega
        have e4 : x.c * x.t * (2520 / x.t) = 2520 * x.c := mul_span2 _ _ _ _ hd
        have e5 : 2520 * (j + 1 + 1) * x.c = 2520 * (j + 1) * x.c + 2520 * x.c := by rw [Nat.mul_add 2520 (j + 1) 1, Nat.add_mul]
        have e6 : x.c * (x.t + q) * (2520 / x.t) = 2520 * x.c + x.c * q * (2520 / x.t) := by rw [Nat.mul_add, Nat.add_mul, e4]
        rw [← hq, er, e5, e6]
        omega

theorem evens_next (l : List Tk) (hl : ∀ x ∈ l, okTk x) (k t : Nat) (hk : 1 ≤ k) : evens l (k + 1) t ≤ evens l k t := by
  induction l with
  | nil => simp [evens]
  | cons x r ih =>
    have h1 := even_next x (hl x (by simp)) k t hk
    have h2 := ih (fun y hy => hl y (by simp [hy]))
    simp only [evens]
    omega

/-- A level that is passed is passed by the next one too. -/
theorem level_next (l : List Tk) (hl : ∀ x ∈ l, okTk x) (hh : heavyB l = false) (k : Nat) (hk : 1 ≤ k) (h : levelAll l k l = true) : levelAll l (k + 1) l = true := by
  rw [levelAll_iff]
  intro x hx j hj
  have h1 := level_fits l hl hh k hk h (x.d + j * x.t)
  have h2 := evens_next l hl k (x.d + j * x.t) hk
  simp only [fitsB, decide_eq_true_eq]
  omega

end Go.Proofs.Ytbeclgilglepeaa
