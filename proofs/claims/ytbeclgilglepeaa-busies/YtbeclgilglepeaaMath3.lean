/-
  Plain mathematics: the check points up to Busy suffice; levels. No program, no walk.
-/
import Derived.Test.YtbeclgilglepeaaMath2
namespace Go.Proofs.Ytbeclgilglepeaa

/-- What a set's tasks are. -/
def okTk (x : Tk) : Prop := 1 ≤ x.c ∧ x.c ≤ x.d ∧ x.d ≤ x.t ∧ x.t ≤ 9

theorem wantedOne_zero (x : Tk) (h : okTk x) : wantedOne x 0 = 0 := by
  unfold wantedOne; rw [if_neg (by unfold okTk at h; omega)]
theorem wanted_zero (l : List Tk) (h : ∀ x ∈ l, okTk x) : wanted l 0 = 0 := by
  induction l with
  | nil => rfl
  | cons x r ih => rw [wanted, wantedOne_zero x (h x (by simp)), ih (fun y hy => h y (by simp [hy]))]

theorem div_step (T a : Nat) (h : ¬ (a + 1) % T = 0) : (a + 1) / T = a / T := by
  rw [Nat.succ_div, if_neg (fun hd => h (Nat.mod_eq_zero_of_dvd hd))]
  rfl

/-- At a time that is no check point no more is wanted than a unit ahead of it. -/
theorem wantedOne_nopoint (x : Tk) (t : Nat) (h : pointOne x (t + 1) = false) : wantedOne x (t + 1) = wantedOne x t := by
  unfold pointOne at h
  unfold wantedOne
  by_cases h1 : x.d ≤ t
  · rw [if_pos (by omega), if_pos h1]
    have h2 : ¬ (t - x.d + 1) % x.t = 0 := by
      intro e
      rw [show t + 1 - x.d = t - x.d + 1 by omega] at h
      simp [e] at h
      omega
    rw [show t + 1 - x.d = t - x.d + 1 by omega, div_step x.t _ h2]
  · by_cases h2 : x.d ≤ t + 1
    · exfalso
      have e : t + 1 - x.d = 0 := by omega
      rw [e] at h
      simp at h
      omega
    · rw [if_neg h2, if_neg h1]

theorem wanted_nopoint (l : List Tk) (t : Nat) (h : pointB l (t + 1) = false) : wanted l (t + 1) = wanted l t := by
  induction l with
  | nil => rfl
  | cons x r ih =>
    rw [pointB, Bool.or_eq_false_iff] at h
    rw [wanted, wanted, wantedOne_nopoint x t h.1, ih h.2]

/-- No check point up to B is passed by what is wanted. -/
def ptsOk (l : List Tk) (B : Nat) : Prop := ∀ t, 1 ≤ t → t ≤ B → pointB l t = true → wanted l t ≤ t

theorem wanted_upto (l : List Tk) (hl : ∀ x ∈ l, okTk x) (B : Nat) (h : ptsOk l B) : ∀ t, t ≤ B → wanted l t ≤ t := by
  intro t
  induction t with
  | zero => intro _; rw [wanted_zero l hl]; omega
  | succ t ih =>
    intro hB
    cases hp : pointB l (t + 1) with
    | true => exact h (t + 1) (by omega) hB hp
    | false => rw [wanted_nopoint l t hp]; have := ih (by omega); omega

theorem ceil_eq (B T : Nat) (hB : 1 ≤ B) (hT : 1 ≤ T) : (B + T - 1) / T = (B - 1) / T + 1 := by
  rw [show B + T - 1 = (B - 1) + T by omega, Nat.add_div_right _ (by omega)]

/-- Behind a time by which all that came ahead of it is done, all begins anew, with no more than at 0. -/
theorem wantedOne_shift (x : Tk) (hx : okTk x) (B t : Nat) (hB : 1 ≤ B) (ht : B ≤ t) : wantedOne x t ≤ comeOne x B + wantedOne x (t - B) := by
  unfold okTk at hx
  unfold wantedOne comeOne
  have hT : 1 ≤ x.t := by omega
  rw [ceil_eq B x.t hB hT]
  have hq : B ≤ x.t * ((B - 1) / x.t + 1) := by
    have h1 := Nat.div_add_mod (B - 1) x.t
    have h2 := Nat.mod_lt (B - 1) (show 0 < x.t by omega)
    rw [Nat.mul_add, Nat.mul_one]; omega
  generalize (B - 1) / x.t = q at *
  by_cases h1 : x.d ≤ t
  · rw [if_pos h1]
    by_cases h2 : x.d ≤ t - B
    · rw [if_pos h2, ← Nat.mul_add]
      refine Nat.mul_le_mul_left _ ?_
      have h3 : (t - x.d) / x.t ≤ (t - B - x.d + x.t * (q + 1)) / x.t := Nat.div_le_div_right (by omega)
      rw [Nat.add_mul_div_left _ _ (by omega)] at h3
      omega
    · rw [if_neg h2, Nat.add_zero]
      refine Nat.mul_le_mul_left _ ?_
      have h3 : (t - x.d) / x.t < q + 1 := by
        rw [Nat.div_lt_iff_lt_mul (by omega), Nat.mul_comm]
        omega
      omega
  · rw [if_neg h1]; omega

theorem wanted_shift (l : List Tk) (hl : ∀ x ∈ l, okTk x) (B t : Nat) (hB : 1 ≤ B) (ht : B ≤ t) : wanted l t ≤ come l B + wanted l (t - B) := by
  induction l with
  | nil => simp [wanted, come]
  | cons x r ih =>
    have h1 := wantedOne_shift x (hl x (by simp)) B t hB ht
    have h2 := ih (fun y hy => hl y (by simp [hy]))
    simp only [wanted, come]
    omega

/-- If no check point up to B is passed, and all that comes ahead of B is B, nothing is ever wanted too much. -/
theorem wanted_all (l : List Tk) (hl : ∀ x ∈ l, okTk x) (B : Nat) (hB : 1 ≤ B) (hc : come l B ≤ B) (h : ptsOk l B) : ∀ t, wanted l t ≤ t := by
  intro t
  induction t using Nat.strongRecOn with
  | _ t ih =>
    by_cases ht : t ≤ B
    · exact wanted_upto l hl B h t ht
    · have h1 := wanted_shift l hl B t hB (by omega)
      have h2 := ih (t - B) (by omega)
      omega

theorem dvd2520 (T : Nat) (h1 : 1 ≤ T) (h9 : T ≤ 9) : T * (2520 / T) = 2520 := by
  have : T = 1 ∨ T = 2 ∨ T = 3 ∨ T = 4 ∨ T = 5 ∨ T = 6 ∨ T = 7 ∨ T = 8 ∨ T = 9 := by omega
  rcases this with h | h | h | h | h | h | h | h | h <;> subst h <;> rfl

/-- By the time 2520 just the load is wanted. -/
theorem wantedOne_span (x : Tk) (hx : okTk x) : wantedOne x 2520 = x.c * (2520 / x.t) := by
  unfold okTk at hx
  have hd := dvd2520 x.t (by omega) (by omega)
  unfold wantedOne
  rw [if_pos (by omega)]
  congr 1
  generalize 2520 / x.t = m at *
  have hm : 1 ≤ m := by
    rcases Nat.eq_zero_or_pos m with e | e
    · subst e; omega
    · exact e
  have e1 : 2520 - x.d = x.t * (m - 1) + (x.t - x.d) := by
    rw [Nat.mul_sub, Nat.mul_one, hd]; omega
  rw [e1, Nat.mul_add_div (by omega), Nat.div_eq_of_lt (by omega)]
  omega

theorem wanted_span (l : List Tk) (hl : ∀ x ∈ l, okTk x) : wanted l 2520 = loadOf l := by
  induction l with
  | nil => rfl
  | cons x r ih => rw [wanted, loadOf, wantedOne_span x (hl x (by simp)), ih (fun y hy => hl y (by simp [hy]))]

theorem heavy_not_feas (l : List Tk) (hl : ∀ x ∈ l, okTk x) (h : heavyB l = true) : feasB l = false := by
  refine feasB_not l 2520 (by omega) (by omega) ?_
  rw [wanted_span l hl]
  simpa [heavyB] using h

theorem comeOne_span (x : Tk) (hx : okTk x) : comeOne x 2520 = x.c * (2520 / x.t) := by
  unfold okTk at hx
  have hd := dvd2520 x.t (by omega) (by omega)
  unfold comeOne
  congr 1
  generalize 2520 / x.t = m at *
  rw [← hd, show x.t * m + x.t - 1 = x.t * m + (x.t - 1) by omega, Nat.mul_add_div (by omega), Nat.div_eq_of_lt (by omega)]
  rfl

theorem come_span (l : List Tk) (hl : ∀ x ∈ l, okTk x) : come l 2520 = loadOf l := by
  induction l with
  | nil => rfl
  | cons x r ih => rw [come, loadOf, comeOne_span x (hl x (by simp)), ih (fun y hy => hl y (by simp [hy]))]

theorem comeOne_mono (x : Tk) (a b : Nat) (h : a ≤ b) : comeOne x a ≤ comeOne x b := by
  unfold comeOne
  exact Nat.mul_le_mul_left _ (Nat.div_le_div_right (by omega))
theorem come_mono (l : List Tk) (a b : Nat) (h : a ≤ b) : come l a ≤ come l b := by
  induction l with
  | nil => simp [come]
  | cons x r ih => have := comeOne_mono x a b h; simp only [come]; omega

theorem come_pos (l : List Tk) (hl : ∀ x ∈ l, okTk x) (hne : l ≠ []) (w : Nat) (hw : 1 ≤ w) : 1 ≤ come l w := by
  cases l with
  | nil => exact absurd rfl hne
  | cons x r =>
    have hx := hl x (by simp)
    unfold okTk at hx
    have h1 : 1 ≤ (w + x.t - 1) / x.t := by rw [Nat.le_div_iff_mul_le (by omega)]; omega
    have h2 : 1 ≤ comeOne x w := Nat.mul_le_mul (show 1 ≤ x.c by omega) h1
    simp only [come]; omega

/-- Where the search begins with more coming than time, and by its end no more, it ends at a fixed point. -/
theorem busyFrom_fix (l : List Tk) : ∀ n w, w ≤ come l w → come l (w + n) ≤ w + n → come l (busyFrom l n w) = busyFrom l n w := by
  intro n
  induction n with
  | zero => intro w h1 h2; simp only [busyFrom]; simp at h2; omega
  | succ n ih =>
    intro w h1 h2
    rw [busyFrom]
    by_cases h : come l w = w
    · rw [if_pos h]; exact h
    · rw [if_neg h]
      refine ih (w + 1) ?_ (by rw [show w + 1 + n = w + (n + 1) by omega]; exact h2)
      have := come_mono l w (w + 1) (by omega)
      omega

/-- Busy is the work of all jobs that come ahead of it. -/
theorem busy_fix (l : List Tk) (hl : ∀ x ∈ l, okTk x) (hne : l ≠ []) (h : heavyB l = false) : come l (busyOf l) = busyOf l := by
  refine busyFrom_fix l 2519 1 (come_pos l hl hne 1 (by omega)) ?_
  show come l 2520 ≤ 2520
  rw [come_span l hl]
  simpa [heavyB] using h

/-- The verdict 1 of a Test that looks at all: no check point up to the end is passed. -/
theorem testFrom_one (l : List Tk) (b : Nat) : ∀ n t s, (testFrom l b n t s).1 = 1 → ∀ u, t ≤ u → u < t + n → pointB l u = true → wanted l u ≤ u := by
  intro n
  induction n with
  | zero => intro t s _ u h1 h2; omega
  | succ n ih =>
    intro t s h u h1 h2 hp
    cases hpt : pointB l t with
    | false =>
      rw [testFrom_nopoint l b n t s hpt] at h
      rcases Nat.eq_or_lt_of_le h1 with e | e
      · subst e; rw [hpt] at hp; cases hp
      · exact ih (t + 1) s h u (by omega) (by omega) hp
    | true =>
      by_cases hs : s = b
      · rw [testFrom_stop l b n t s hpt hs] at h; simp at h
      · by_cases hw : t < wanted l t
        · rw [testFrom_bad l b n t s hpt hs hw] at h; simp at h
        · rw [testFrom_go l b n t s hpt hs hw] at h
          rcases Nat.eq_or_lt_of_le h1 with e | e
          · subst e; omega
          · exact ih (t + 1) (s + 1) h u (by omega) (by omega) hp

/-- Conversely, with a budget that suffices. -/
theorem testFrom_pass (l : List Tk) (b : Nat) : ∀ n t s, s + n ≤ b → (∀ u, t ≤ u → u < t + n → pointB l u = true → wanted l u ≤ u) → testFrom l b n t s = (1, 0) := by
  intro n
  induction n with
  | zero => intro t s _ _; rfl
  | succ n ih =>
    intro t s hb h
    cases hpt : pointB l t with
    | false => rw [testFrom_nopoint l b n t s hpt]; exact ih (t + 1) s (by omega) (fun u h1 h2 hp => h u (by omega) (by omega) hp)
    | true =>
      rw [testFrom_go l b n t s hpt (by omega) (by have := h t (by omega) (by omega) hpt; omega)]
      exact ih (t + 1) (s + 1) (by omega) (fun u h1 h2 hp => h u (by omega) (by omega) hp)

/-- A verdict is 1, 2 or 3; at 2 more is wanted by the time that is told. -/
theorem testFrom_cases (l : List Tk) (b : Nat) : ∀ n t s, testFrom l b n t s = (1, 0) ∨ testFrom l b n t s = (3, 0) ∨ ∃ u, t ≤ u ∧ u < t + n ∧ u < wanted l u ∧ testFrom l b n t s = (2, (u : Int)) := by
  intro n
  induction n with
  | zero => intro t s; left; rfl
  | succ n ih =>
    intro t s
    cases hpt : pointB l t with
    | false =>
      rw [testFrom_nopoint l b n t s hpt]
      rcases ih (t + 1) s with h | h | ⟨u, h1, h2, h3, h4⟩
      · left; exact h
      · right; left; exact h
      · right; right; exact ⟨u, by omega, by omega, h3, h4⟩
    | true =>
      by_cases hs : s = b
      · rw [testFrom_stop l b n t s hpt hs]; right; left; rfl
      · by_cases hw : t < wanted l t
        · rw [testFrom_bad l b n t s hpt hs hw]; right; right; exact ⟨t, by omega, by omega, hw, rfl⟩
        · rw [testFrom_go l b n t s hpt hs hw]
          rcases ih (t + 1) (s + 1) with h | h | ⟨u, h1, h2, h3, h4⟩
          · left; exact h
          · right; left; exact h
          · right; right; exact ⟨u, by omega, by omega, h3, h4⟩

/-- The verdict 1: nothing is ever wanted too much. -/
theorem test_one_all (l : List Tk) (hl : ∀ x ∈ l, okTk x) (hne : l ≠ []) (hh : heavyB l = false) (b : Nat) (h : (testFrom l b (busyOf l) 1 0).1 = 1) : ∀ t, wanted l t ≤ t := by
  refine wanted_all l hl (busyOf l) (busyOf_le l).1 (Nat.le_of_eq (busy_fix l hl hne hh)) ?_
  intro t h1 h2 hp
  exact testFrom_one l b (busyOf l) 1 0 h t h1 (by omega) hp

/-- A feasible set: nothing is ever wanted too much. -/
theorem feas_all (l : List Tk) (hl : ∀ x ∈ l, okTk x) (hne : l ≠ []) (h : feasB l = true) : ∀ t, wanted l t ≤ t := by
  have hh : heavyB l = false := by
    cases e : heavyB l with
    | false => rfl
    | true => rw [heavy_not_feas l hl e] at h; cases h
  refine wanted_all l hl (busyOf l) (busyOf_le l).1 (Nat.le_of_eq (busy_fix l hl hne hh)) ?_
  intro t h1 h2 _
  exact (feasB_iff l).1 h t h1 (by have := (busyOf_le l).2; omega)

theorem all_feas (l : List Tk) (h : ∀ t, wanted l t ≤ t) : feasB l = true := (feasB_iff l).2 (fun t _ _ => h t)

theorem feas_not_heavy (l : List Tk) (hl : ∀ x ∈ l, okTk x) (h : feasB l = true) : heavyB l = false := by
  cases e : heavyB l with
  | false => rfl
  | true => rw [heavy_not_feas l hl e] at h; cases h

/-- Of a feasible set Test says 1, if its budget suffices. -/
theorem feas_test (l : List Tk) (hl : ∀ x ∈ l, okTk x) (h : feasB l = true) (b : Nat) (hb : 2520 ≤ b) : heavyB l = false ∧ testFrom l b (busyOf l) 1 0 = (1, 0) := by
  refine ⟨feas_not_heavy l hl h, testFrom_pass l b (busyOf l) 1 0 (by have := (busyOf_le l).2; omega) ?_⟩
  intro u h1 h2 _
  exact (feasB_iff l).1 h u h1 (by have := (busyOf_le l).2; omega)

end Go.Proofs.Ytbeclgilglepeaa
