/-
  Plain mathematics of sets of tasks: no program, no walk.
-/
import Derived.Below
namespace Go.Proofs.Ytbeclgilglepeaa

/-- A task: its work, its deadline, its period. -/
structure Tk where
  c : Nat
  d : Nat
  t : Nat

/-- May the byte stand at this place of a set? -/
def okAt (b : Nat) (i : Nat) : Bool := if i % 4 = 3 then b == 59 else decide (49 ≤ b) && decide (b ≤ 57)

/-- The first place from i on, in what is left, at which a byte may not stand. -/
def badFrom : List UInt8 → Nat → Option Nat
  | [], _ => none
  | b :: r, i => if okAt b.toNat i then badFrom r (i + 1) else some i

/-- What 'place' answers. -/
def placeOf (l : List UInt8) : Int :=
  match badFrom l 0 with
  | some i => i
  | none => if l.length % 4 = 3 then -1 else l.length

/-- The j-th task of a text that has its form. -/
def tkAt (l : List UInt8) (j : Nat) : Tk := ⟨(l.getD (4 * j) 0).toNat - 48, (l.getD (4 * j + 1) 0).toNat - 48, (l.getD (4 * j + 2) 0).toNat - 48⟩

def tasksOf (l : List UInt8) : List Tk := (List.range ((l.length + 1) / 4)).map (tkAt l)

def wrongTk (x : Tk) : Bool := decide (x.d < x.c) || decide (x.t < x.d)

/-- The number of the first task from i on whose numbers may not be. -/
def badTask : List Tk → Nat → Option Nat
  | [], _ => none
  | x :: r, i => if wrongTk x then some i else badTask r (i + 1)

/-- Check's two answers. -/
def checkOf (l : List UInt8) : Int × Int :=
  if 31 < l.length then (1, 0) else
  if 0 ≤ placeOf l then (2, placeOf l) else
  match badTask (tasksOf l) 0 with
  | some i => (3, i)
  | none => (0, 0)

theorem badFrom_drop (l : List UInt8) (k : Nat) (h : k < l.length) (hok : okAt l[k].toNat k = true) :
    badFrom (l.drop k) k = badFrom (l.drop (k + 1)) (k + 1) := by
  rw [List.drop_eq_getElem_cons h, badFrom, if_pos hok]

theorem badFrom_hit (l : List UInt8) (k : Nat) (h : k < l.length) (hok : okAt l[k].toNat k = false) :
    badFrom (l.drop k) k = some k := by
  rw [List.drop_eq_getElem_cons h, badFrom, if_neg (by simp [hok])]

theorem badFrom_end (l : List UInt8) (k : Nat) (h : l.length ≤ k) : badFrom (l.drop k) k = none := by
  rw [List.drop_eq_nil_of_le h, badFrom]

theorem badFrom_none (l : List UInt8) : ∀ i, badFrom l i = none → ∀ j, (h : j < l.length) → okAt l[j].toNat (i + j) = true := by
  induction l with
  | nil => intro i _ j h; simp at h
  | cons b r ih =>
    intro i hn j h
    rw [badFrom] at hn
    by_cases hb : okAt b.toNat i = true
    · rw [if_pos hb] at hn
      cases j with
      | zero => simpa using hb
      | succ j =>
        have := ih (i + 1) hn j (by simpa using h)
        simpa [Nat.add_assoc, Nat.add_comm 1 j] using this
    · rw [if_neg hb] at hn; cases hn

theorem badFrom_ge (l : List UInt8) : ∀ i k, badFrom l i = some k → i ≤ k ∧ k < i + l.length := by
  induction l with
  | nil => intro i k h; simp [badFrom] at h
  | cons b r ih =>
    intro i k h
    rw [badFrom] at h
    by_cases hb : okAt b.toNat i = true
    · rw [if_pos hb] at h
      have := ih _ _ h
      simp only [List.length_cons]; omega
    · rw [if_neg hb] at h
      cases h
      simp only [List.length_cons]; omega

/-- A text that has its form: every byte may stand, and the length is right. -/
def formed (l : List UInt8) : Prop := badFrom l 0 = none ∧ l.length % 4 = 3

theorem placeOf_neg (l : List UInt8) (h : ¬ 0 ≤ placeOf l) : formed l := by
  unfold placeOf at h
  cases hb : badFrom l 0 with
  | some i => rw [hb] at h; simp at h
  | none =>
    rw [hb] at h
    by_cases hl : l.length % 4 = 3
    · exact ⟨hb, hl⟩
    · simp [hl] at h

theorem placeOf_lo (l : List UInt8) : -1 ≤ placeOf l ∧ placeOf l ≤ l.length := by
  unfold placeOf
  cases hb : badFrom l 0 with
  | some i => have := badFrom_ge _ _ _ hb; simp; omega
  | none => by_cases hl : l.length % 4 = 3 <;> simp [hl]

theorem formed_digit (l : List UInt8) (h : formed l) (j : Nat) (hj : j < l.length) (h4 : j % 4 < 3) : 49 ≤ l[j].toNat ∧ l[j].toNat ≤ 57 := by
  have := badFrom_none l 0 h.1 j hj
  unfold okAt at this
  rw [if_neg (by omega)] at this
  simpa using this

theorem tasksOf_length (l : List UInt8) : (tasksOf l).length = (l.length + 1) / 4 := by simp [tasksOf]

theorem badTask_drop (l : List Tk) (k : Nat) (h : k < l.length) (hok : wrongTk l[k] = false) : badTask (l.drop k) k = badTask (l.drop (k + 1)) (k + 1) := by
  rw [List.drop_eq_getElem_cons h, badTask, if_neg (by simp [hok])]

theorem badTask_hit (l : List Tk) (k : Nat) (h : k < l.length) (hok : wrongTk l[k] = true) : badTask (l.drop k) k = some k := by
  rw [List.drop_eq_getElem_cons h, badTask, if_pos hok]

theorem badTask_end (l : List Tk) (k : Nat) (h : l.length ≤ k) : badTask (l.drop k) k = none := by
  rw [List.drop_eq_nil_of_le h, badTask]

theorem badTask_lt (l : List Tk) : ∀ i k, badTask l i = some k → i ≤ k ∧ k < i + l.length := by
  induction l with
  | nil => intro i k h; simp [badTask] at h
  | cons b r ih =>
    intro i k h
    rw [badTask] at h
    by_cases hb : wrongTk b = true
    · rw [if_pos hb] at h; cases h; simp only [List.length_cons]; omega
    · rw [if_neg hb] at h
      have := ih _ _ h
      simp only [List.length_cons]; omega

theorem badTask_none (l : List Tk) : ∀ i, badTask l i = none → ∀ x ∈ l, x.c ≤ x.d ∧ x.d ≤ x.t := by
  induction l with
  | nil => intro i _ x hx; cases hx
  | cons b r ih =>
    intro i hn x hx
    rw [badTask] at hn
    by_cases hb : wrongTk b = true
    · rw [if_pos hb] at hn; cases hn
    · rw [if_neg hb] at hn
      cases hx with
      | head => simp [wrongTk] at hb; omega
      | tail _ hx => exact ih _ hn x hx

theorem checkOf_long (l : List UInt8) (h : 31 < l.length) : checkOf l = (1, 0) := by unfold checkOf; rw [if_pos h]
theorem checkOf_place (l : List UInt8) (h : ¬ 31 < l.length) (hp : 0 ≤ placeOf l) : checkOf l = (2, placeOf l) := by unfold checkOf; rw [if_neg h, if_pos hp]
theorem checkOf_task (l : List UInt8) (h : ¬ 31 < l.length) (hp : ¬ 0 ≤ placeOf l) (i : Nat) (hb : badTask (tasksOf l) 0 = some i) : checkOf l = (3, (i : Int)) := by
  unfold checkOf; rw [if_neg h, if_neg hp, hb]
theorem checkOf_ok (l : List UInt8) (h : ¬ 31 < l.length) (hp : ¬ 0 ≤ placeOf l) (hb : badTask (tasksOf l) 0 = none) : checkOf l = (0, 0) := by
  unfold checkOf; rw [if_neg h, if_neg hp, hb]

/-- A set: Check's error is 0. -/
theorem checkOf_zero (l : List UInt8) (h : (checkOf l).1 = 0) : l.length ≤ 31 ∧ formed l ∧ badTask (tasksOf l) 0 = none ∧ checkOf l = (0, 0) := by
  by_cases h1 : 31 < l.length
  · rw [checkOf_long l h1] at h; simp at h
  · by_cases h2 : 0 ≤ placeOf l
    · rw [checkOf_place l h1 h2] at h; simp at h
    · cases h3 : badTask (tasksOf l) 0 with
      | some i => rw [checkOf_task l h1 h2 i h3] at h; simp at h
      | none => exact ⟨by omega, placeOf_neg l h2, rfl, checkOf_ok l h1 h2 h3⟩

theorem checkOf_bound (l : List UInt8) : 0 ≤ (checkOf l).1 ∧ (checkOf l).1 ≤ 3 ∧ 0 ≤ (checkOf l).2 ∧ (checkOf l).2 ≤ 100 := by
  by_cases h1 : 31 < l.length
  · rw [checkOf_long l h1]; simp
  · by_cases h2 : 0 ≤ placeOf l
    · rw [checkOf_place l h1 h2]; have := placeOf_lo l; simp; omega
    · cases h3 : badTask (tasksOf l) 0 with
      | some i => rw [checkOf_task l h1 h2 i h3]; have := badTask_lt _ _ _ h3; have e := tasksOf_length l; simp; omega
      | none => rw [checkOf_ok l h1 h2 h3]; simp

/-- The numbers of a task that is read from digits. -/
def fine (x : Tk) : Prop := 1 ≤ x.c ∧ x.c ≤ 9 ∧ 1 ≤ x.d ∧ x.d ≤ 9 ∧ 1 ≤ x.t ∧ x.t ≤ 9

theorem tasksOf_fine (l : List UInt8) (h : formed l) : ∀ x ∈ tasksOf l, fine x := by
  intro x hx
  simp only [tasksOf, List.mem_map, List.mem_range] at hx
  obtain ⟨j, hj, rfl⟩ := hx
  have h3 := h.2
  have a0 := formed_digit l h (4 * j) (by omega) (by omega)
  have a1 := formed_digit l h (4 * j + 1) (by omega) (by omega)
  have a2 := formed_digit l h (4 * j + 2) (by omega) (by omega)
  simp only [fine, tkAt]
  rw [List.getD_eq_getElem?_getD, List.getD_eq_getElem?_getD, List.getD_eq_getElem?_getD, List.getElem?_eq_getElem (by omega), List.getElem?_eq_getElem (by omega), List.getElem?_eq_getElem (by omega)]
  simp only [Option.getD_some]
  omega

/-- What is wanted of a task by the time t. -/
def wantedOne (x : Tk) (t : Nat) : Nat := if x.d ≤ t then x.c * ((t - x.d) / x.t + 1) else 0

def wanted : List Tk → Nat → Nat
  | [], _ => 0
  | x :: r, t => wantedOne x t + wanted r t

theorem wanted_append (l m : List Tk) (t : Nat) : wanted (l ++ m) t = wanted l t + wanted m t := by
  induction l with
  | nil => simp [wanted]
  | cons x r ih => simp only [List.cons_append, wanted, ih]; omega

theorem wanted_snoc (l : List Tk) (k : Nat) (h : k < l.length) (t : Nat) : wanted (l.take (k + 1)) t = wanted (l.take k) t + wantedOne l[k] t := by
  rw [List.take_succ_eq_append_getElem h, wanted_append]; simp [wanted]

theorem wantedOne_le (x : Tk) (t : Nat) (hc : x.c ≤ 9) : wantedOne x t ≤ 9 * (t + 1) := by
  unfold wantedOne
  by_cases h : x.d ≤ t
  · rw [if_pos h]
    have h1 : (t - x.d) / x.t ≤ t := Nat.le_trans (Nat.div_le_self _ _) (Nat.sub_le _ _)
    exact Nat.mul_le_mul hc (by omega)
  · rw [if_neg h]; omega

theorem wanted_le (l : List Tk) (t : Nat) (hc : ∀ x ∈ l, x.c ≤ 9) : wanted l t ≤ l.length * (9 * (t + 1)) := by
  induction l with
  | nil => simp [wanted]
  | cons x r ih =>
    have h1 := wantedOne_le x t (hc x (by simp))
    have h2 := ih (fun y hy => hc y (by simp [hy]))
    simp only [wanted, List.length_cons, Nat.add_mul]
    omega

end Go.Proofs.Ytbeclgilglepeaa
