/-
  Plain mathematics of sets of tasks: no program, no walk.
-/
import Derived.Below
namespace Go.Proofs.Ytdhofmnidlhjpab

/-- A task: its work, its deadline, its period. -/
structure Tk where
  c : Nat
  d : Nat
  t : Nat

/-- May the byte stand at this place of a set? -/
def okAt (b : Nat) (i : Nat) : Bool := if i % 4 = 3 then b == 59 else decide (49 ≤ b) && decide (b ≤ 57)

/-- The first place from i on, in what is left, at which a byte may not stand. -/
def badFrom : List UInt8 → Nat → Option Nat
  | [], _ => none
  | b :: r, i => if okAt b.toNat i then badFrom r (i + 1) else some i

/-- What 'place' answers. -/
def placeOf (l : List UInt8) : Int :=
  match badFrom l 0 with
  | some i => i
  | none => if l.length % 4 = 3 then -1 else l.length

/-- The j-th task of a text that has its form. -/
def tkAt (l : List UInt8) (j : Nat) : Tk := ⟨(l.getD (4 * j) 0).toNat - 48, (l.getD (4 * j + 1) 0).toNat - 48, (l.getD (4 * j + 2) 0).toNat - 48⟩

def tasksOf (l : List UInt8) : List Tk := (List.range ((l.length + 1) / 4)).map (tkAt l)

def wrongTk (x : Tk) : Bool := decide (x.d < x.c) || decide (x.t < x.d)

/-- The number of the first task from i on whose numbers may not be. -/
def badTask : List Tk → Nat → Option Nat
  | [], _ => none
  | x :: r, i => if wrongTk x then some i else badTask r (i + 1)

/-- Check's two answers. -/
def checkOf (l : List UInt8) : Int × Int :=
  if 31 < l.length then (1, 0) else
  if 0 ≤ placeOf l then (2, placeOf l) else
  match badTask (tasksOf l) 0 with
  | some i => (3, i)
  | none => (0, 0)

theorem badFrom_drop (l : List UInt8) (k : Nat) (h : k < l.length) (hok : okAt l[k].toNat k = true) :
    badFrom (l.drop k) k = badFrom (l.drop (k + 1)) (k + 1) := by
  rw [List.drop_eq_getElem_cons h, badFrom, if_pos hok]

theorem badFrom_hit (l : List UInt8) (k : Nat) (h : k < l.length) (hok : okAt l[k].toNat k = false) :
    badFrom (l.drop k) k = some k := by
  rw [List.drop_eq_getElem_cons h, badFrom, if_neg (by simp [hok])]

theorem badFrom_end (l : List UInt8) (k : Nat) (h : l.length ≤ k) : badFrom (l.drop k) k = none := by
  rw [List.drop_eq_nil_of_le h, badFrom]

theorem badFrom_none (l : List UInt8) : ∀ i, badFrom l i = none → ∀ j, (h : j < l.length) → okAt l[j].toNat (i + j) = true := by
  induction l with
  | nil => intro i _ j h; simp at h
  | cons b r ih =>
    intro i hn j h
    rw [badFrom] at hn
    by_cases hb : okAt b.toNat i = true
    · rw [if_pos hb] at hn
      cases j with
      | zero => simpa using hb
      | succ j =>
        have := ih (i + 1) hn j (by simpa using h)
        simpa [Nat.add_assoc, Nat.add_comm 1 j] using this
    · rw [if_neg hb] at hn; cases hn

theorem badFrom_ge (l : List UInt8) : ∀ i k, badFrom l i = some k → i ≤ k ∧ k < i + l.length := by
  induction l with
  | nil => intro i k h; simp [badFrom] at h
  | cons b r ih =>
    intro i k h
    rw [badFrom] at h
    by_cases hb : okAt b.toNat i = true
    · rw [if_pos hb] at h
      have := ih _ _ h
      simp only [List.length_cons]; omega
    · rw [if_neg hb] at h
      cases h
      simp only [List.length_cons]; omega

/-- A text that has its form: every byte may stand, and the length is right. -/
def formed (l : List UInt8) : Prop := badFrom l 0 = none ∧ l.length % 4 = 3

theorem placeOf_neg (l : List UInt8) (h : ¬ 0 ≤ placeOf l) : formed l := by
  unfold placeOf at h
  cases hb : badFrom l 0 with
  | some i => rw [hb] at h; simp at h
  | none =>
    rw [hb] at h
    by_cases hl : l.length % 4 = 3
    · exact ⟨hb, hl⟩
    · simp [hl] at h

theorem placeOf_lo (l : List UInt8) : -1 ≤ placeOf l ∧ placeOf l ≤ l.length := by
  unfold placeOf
  cases hb : badFrom l 0 with
  | some i => have := badFrom_ge _ _ _ hb; simp; omega
  | none => by_cases hl : l.length % 4 = 3 <;> simp [hl]

theorem formed_digit (l : List UInt8) (h : formed l) (j : Nat) (hj : j < l.length) (h4 : j % 4 < 3) : 49 ≤ l[j].toNat ∧ l[j].toNat ≤ 57 := by
  have := badFrom_none l 0 h.1 j hj
  unfold okAt at this
  rw [if_neg (by omega)] at this
  simpa using this

theorem tasksOf_length (l : List UInt8) : (tasksOf l).length = (l.length + 1) / 4 := by simp [tasksOf]

theorem badTask_drop (l : List Tk) (k : Nat) (h : k < l.length) (hok : wrongTk l[k] = false) : badTask (l.drop k) k = badTask (l.drop (k + 1)) (k + 1) := by
  rw [List.drop_eq_getElem_cons h, badTask, if_neg (by simp [hok])]

theorem badTask_hit (l : List Tk) (k : Nat) (h : k < l.length) (hok : wrongTk l[k] = true) : badTask (l.drop k) k = some k := by
  rw [List.drop_eq_getElem_cons h, badTask, if_pos hok]

theorem badTask_end (l : List Tk) (k : Nat) (h : l.length ≤ k) : badTask (l.drop k) k = none := by
  rw [List.drop_eq_nil_of_le h, badTask]

theorem badTask_lt (l : List Tk) : ∀ i k, badTask l i = some k → i ≤ k ∧ k < i + l.length := by
  induction l with
  | nil => intro i k h; simp [badTask] at h
  | cons b r ih =>
    intro i k h
    rw [badTask] at h
    by_cases hb : wrongTk b = true
    · rw [if_pos hb] at h; cases h; simp only [List.length_cons]; omega
    · rw [if_neg hb] at h
      have := ih _ _ h
      simp only [List.length_cons]; omega

theorem badTask_none (l : List Tk) : ∀ i, badTask l i = none → ∀ x ∈ l, x.c ≤ x.d ∧ x.d ≤ x.t := by
  induction l with
  | nil => intro i _ x hx; cases hx
  | cons b r ih =>
    intro i hn x hx
    rw [badTask] at hn
    by_cases hb : wrongTk b = true
    · rw [if_pos hb] at hn; cases hn
    · rw [if_neg hb] at hn
      cases hx with
      | head => simp [wrongTk] at hb; omega
      | tail _ hx => exact ih _ hn x hx

theorem checkOf_long (l : List UInt8) (h : 31 < l.length) : checkOf l = (1, 0) := by unfold checkOf; rw [if_pos h]
theorem checkOf_place (l : List UInt8) (h : ¬ 31 < l.length) (hp : 0 ≤ placeOf l) : checkOf l = (2, placeOf l) := by unfold checkOf; rw [if_neg h, if_pos hp]
theorem checkOf_task (l : List UInt8) (h : ¬ 31 < l.length) (hp : ¬ 0 ≤ placeOf l) (i : Nat) (hb : badTask (tasksOf l) 0 = some i) : checkOf l = (3, (i : Int)) := by
  unfold checkOf; rw [if_neg h, if_neg hp, hb]
theorem checkOf_ok (l : List UInt8) (h : ¬ 31 < l.length) (hp : ¬ 0 ≤ placeOf l) (hb : badTask (tasksOf l) 0 = none) : checkOf l = (0, 0) := by
  unfold checkOf; rw [if_neg h, if_neg hp, hb]

/-- A set: Check's error is 0. -/
theorem checkOf_zero (l : List UInt8) (h : (checkOf l).1 = 0) : l.length ≤ 31 ∧ formed l ∧ badTask (tasksOf l) 0 = none ∧ checkOf l = (0, 0) := by
  by_cases h1 : 31 < l.length
  · rw [checkOf_long l h1] at h; simp at h
  · by_cases h2 : 0 ≤ placeOf l
    · rw [checkOf_place l h1 h2] at h; simp at h
    · cases h3 : badTask (tasksOf l) 0 with
      | some i => rw [checkOf_task l h1 h2 i h3] at h; simp at h
      | none => exact ⟨by omega, placeOf_neg l h2, rfl, checkOf_ok l h1 h2 h3⟩

theorem checkOf_bound (l : List UInt8) : 0 ≤ (checkOf l).1 ∧ (checkOf l).1 ≤ 3 ∧ 0 ≤ (checkOf l).2 ∧ (checkOf l).2 ≤ 100 := by
  by_cases h1 : 31 < l.length
  · rw [checkOf_long l h1]; simp
  · by_cases h2 : 0 ≤ placeOf l
    · rw [checkOf_place l h1 h2]; have := placeOf_lo l; simp; omega
    · cases h3 : badTask (tasksOf l) 0 with
      | some i => rw [checkOf_task l h1 h2 i h3]; have := badTask_lt _ _ _ h3; have e := tasksOf_length l; simp; omega
      | none => rw [checkOf_ok l h1 h2 h3]; simp

/-- The numbers of a task that is read from digits. -/
def fine (x : Tk) : Prop := 1 ≤ x.c ∧ x.c ≤ 9 ∧ 1 ≤ x.d ∧ x.d ≤ 9 ∧ 1 ≤ x.t ∧ x.t ≤ 9

theorem tasksOf_fine (l : List UInt8) (h : formed l) : ∀ x ∈ tasksOf l, fine x := by
  intro x hx
  simp only [tasksOf, List.mem_map, List.mem_range] at hx
  obtain ⟨j, hj, rfl⟩ := hx
  have h3 := h.2
  have a0 := formed_digit l h (4 * j) (by omega) (by omega)
  have a1 := formed_digit l h (4 * j + 1) (by omega) (by omega)
  have a2 := formed_digit l h (4 * j + 2) (by omega) (by omega)
  simp only [fine, tkAt]
  rw [List.getD_eq_getElem?_getD, List.getD_eq_getElem?_getD, List.getD_eq_getElem?_getD, List.getElem?_eq_getElem (by omega), List.getElem?_eq_getElem (by omega), List.getElem?_eq_getElem (by omega)]
  simp only [Option.getD_some]
  omega

/-- What is wanted of a task by the time t. -/
def wantedOne (x : Tk) (t : Nat) : Nat := if x.d ≤ t then x.c * ((t - x.d) / x.t + 1) else 0

def wanted : List Tk → Nat → Nat
  | [], _ => 0
  | x :: r, t => wantedOne x t + wanted r t

theorem wanted_append (l m : List Tk) (t : Nat) : wanted (l ++ m) t = wanted l t + wanted m t := by
  induction l with
  | nil => simp [wanted]
  | cons x r ih => simp only [List.cons_append, wanted, ih]; omega

theorem wanted_snoc (l : List Tk) (k : Nat) (h : k < l.length) (t : Nat) : wanted (l.take (k + 1)) t = wanted (l.take k) t + wantedOne l[k] t := by
  rw [List.take_succ_eq_append_getElem h, wanted_append]; simp [wanted]

theorem wantedOne_le (x : Tk) (t : Nat) (hc : x.c ≤ 9) : wantedOne x t ≤ 9 * (t + 1) := by
  unfold wantedOne
  by_cases h : x.d ≤ t
  · rw [if_pos h]
    have h1 : (t - x.d) / x.t ≤ t := Nat.le_trans (Nat.div_le_self _ _) (Nat.sub_le _ _)
    exact Nat.mul_le_mul hc (by omega)
  · rw [if_neg h]; omega

theorem wanted_le (l : List Tk) (t : Nat) (hc : ∀ x ∈ l, x.c ≤ 9) : wanted l t ≤ l.length * (9 * (t + 1)) := by
  induction l with
  | nil => simp [wanted]
  | cons x r ih =>
    have h1 := wantedOne_le x t (hc x (by simp))
    have h2 := ih (fun y hy => hc y (by simp [hy]))
    simp only [wanted, List.length_cons, Nat.add_mul]
    omega

end Go.Proofs.Ytdhofmnidlhjpab

namespace Go.Proofs.Ytdhofmnidlhjpab

/-- The sum of C/T, in parts of 2520. -/
def loadOf : List Tk → Nat
  | [] => 0
  | x :: r => x.c * (2520 / x.t) + loadOf r

def heavyB (l : List Tk) : Bool := decide (2520 < loadOf l)

theorem loadOf_append (l m : List Tk) : loadOf (l ++ m) = loadOf l + loadOf m := by
  induction l with
  | nil => simp [loadOf]
  | cons x r ih => simp only [List.cons_append, loadOf, ih]; omega

theorem loadOf_snoc (l : List Tk) (k : Nat) (h : k < l.length) : loadOf (l.take (k + 1)) = loadOf (l.take k) + l[k].c * (2520 / l[k].t) := by
  rw [List.take_succ_eq_append_getElem h, loadOf_append]; simp [loadOf]

theorem loadOf_le (l : List Tk) (hc : ∀ x ∈ l, x.c ≤ 9) : loadOf l ≤ l.length * (9 * 2520) := by
  induction l with
  | nil => simp [loadOf]
  | cons x r ih =>
    have h1 : x.c * (2520 / x.t) ≤ 9 * 2520 := Nat.mul_le_mul (hc x (by simp)) (Nat.div_le_self _ _)
    have h2 := ih (fun y hy => hc y (by simp [hy]))
    simp only [loadOf, List.length_cons, Nat.add_mul]
    omega

/-- No more than t is wanted by every t from 1 to 2520. -/
def feasB (l : List Tk) : Bool := (List.range 2520).all fun i => decide (wanted l (i + 1) ≤ i + 1)

theorem feasB_iff (l : List Tk) : feasB l = true ↔ ∀ t, 1 ≤ t → t ≤ 2520 → wanted l t ≤ t := by
  unfold feasB
  rw [List.all_eq_true]
  constructor
  · intro h t h1 h2
    have := h (t - 1) (by rw [List.mem_range]; omega)
    rw [show t - 1 + 1 = t by omega] at this
    simpa using this
  · intro h i hi
    rw [List.mem_range] at hi
    simpa using h (i + 1) (by omega) (by omega)

theorem feasB_not (l : List Tk) (t : Nat) (h1 : 1 ≤ t) (h2 : t ≤ 2520) (h3 : t < wanted l t) : feasB l = false := by
  cases h : feasB l with
  | false => rfl
  | true => have := (feasB_iff l).1 h t h1 h2; omega

/-- The work of all jobs that come ahead of w. -/
def comeOne (x : Tk) (w : Nat) : Nat := x.c * ((w + x.t - 1) / x.t)
def come : List Tk → Nat → Nat
  | [], _ => 0
  | x :: r, w => comeOne x w + come r w

theorem come_append (l m : List Tk) (w : Nat) : come (l ++ m) w = come l w + come m w := by
  induction l with
  | nil => simp [come]
  | cons x r ih => simp only [List.cons_append, come, ih]; omega

theorem come_snoc (l : List Tk) (k : Nat) (h : k < l.length) (w : Nat) : come (l.take (k + 1)) w = come (l.take k) w + comeOne l[k] w := by
  rw [List.take_succ_eq_append_getElem h, come_append]; simp [come]

theorem comeOne_le (x : Tk) (w : Nat) (hc : x.c ≤ 9) (ht : x.t ≤ 9) : comeOne x w ≤ 9 * (w + 9) := by
  unfold comeOne
  have h1 : (w + x.t - 1) / x.t ≤ w + x.t - 1 := Nat.div_le_self _ _
  exact Nat.mul_le_mul hc (by omega)

theorem come_le (l : List Tk) (w : Nat) (hc : ∀ x ∈ l, x.c ≤ 9 ∧ x.t ≤ 9) : come l w ≤ l.length * (9 * (w + 9)) := by
  induction l with
  | nil => simp [come]
  | cons x r ih =>
    have h1 := comeOne_le x w (hc x (by simp)).1 (hc x (by simp)).2
    have h2 := ih (fun y hy => hc y (by simp [hy]))
    simp only [come, List.length_cons, Nat.add_mul]
    omega

/-- The least w from here on, before the fuel ends, that is the work of all jobs that come ahead of it. -/
def busyFrom (l : List Tk) : Nat → Nat → Nat
  | 0, w => w
  | n + 1, w => if come l w = w then w else busyFrom l n (w + 1)

def busyOf (l : List Tk) : Nat := busyFrom l 2519 1

theorem busyFrom_hit (l : List Tk) (n w : Nat) (h : come l w = w) : busyFrom l n w = w := by
  cases n with
  | zero => rfl
  | succ n => rw [busyFrom, if_pos h]

theorem busyFrom_miss (l : List Tk) (n w : Nat) (h : ¬ come l w = w) : busyFrom l (n + 1) w = busyFrom l n (w + 1) := by
  rw [busyFrom, if_neg h]

theorem busyFrom_le (l : List Tk) : ∀ n w, w ≤ busyFrom l n w ∧ busyFrom l n w ≤ w + n := by
  intro n
  induction n with
  | zero => intro w; simp [busyFrom]
  | succ n ih =>
    intro w
    rw [busyFrom]
    by_cases h : come l w = w
    · rw [if_pos h]; omega
    · rw [if_neg h]; have := ih (w + 1); omega

theorem busyOf_le (l : List Tk) : 1 ≤ busyOf l ∧ busyOf l ≤ 2520 := by
  have := busyFrom_le l 2519 1
  unfold busyOf; omega

/-- A check point. -/
def pointOne (x : Tk) (t : Nat) : Bool := decide (x.d ≤ t) && decide ((t - x.d) % x.t = 0)
def pointB : List Tk → Nat → Bool
  | [], _ => false
  | x :: r, t => pointOne x t || pointB r t

theorem pointB_hit (l : List Tk) (k : Nat) (h : k < l.length) (t : Nat) (hp : pointOne l[k] t = true) : pointB (l.drop k) t = true := by
  rw [List.drop_eq_getElem_cons h, pointB, hp]; rfl
theorem pointB_miss (l : List Tk) (k : Nat) (h : k < l.length) (t : Nat) (hp : pointOne l[k] t = false) : pointB (l.drop k) t = pointB (l.drop (k + 1)) t := by
  rw [List.drop_eq_getElem_cons h, pointB, hp]; rfl
theorem pointB_end (l : List Tk) (k : Nat) (h : l.length ≤ k) (t : Nat) : pointB (l.drop k) t = false := by
  rw [List.drop_eq_nil_of_le h, pointB]

/-- The looking of Test, from the time t on, n times more, 'seen' check points having been looked at. -/
def testFrom (l : List Tk) (budget : Nat) : Nat → Nat → Nat → Int × Int
  | 0, _, _ => (1, 0)
  | n + 1, t, seen =>
    if pointB l t = true then
      if seen = budget then (3, 0) else if t < wanted l t then (2, (t : Int)) else testFrom l budget n (t + 1) (seen + 1)
    else testFrom l budget n (t + 1) seen

theorem testFrom_nopoint (l : List Tk) (b n t s : Nat) (h : pointB l t = false) : testFrom l b (n + 1) t s = testFrom l b n (t + 1) s := by
  rw [testFrom, if_neg (by simp [h])]
theorem testFrom_stop (l : List Tk) (b n t s : Nat) (h : pointB l t = true) (hs : s = b) : testFrom l b (n + 1) t s = (3, 0) := by
  rw [testFrom, if_pos h, if_pos hs]
theorem testFrom_bad (l : List Tk) (b n t s : Nat) (h : pointB l t = true) (hs : ¬ s = b) (hw : t < wanted l t) : testFrom l b (n + 1) t s = (2, (t : Int)) := by
  rw [testFrom, if_pos h, if_neg hs, if_pos hw]
theorem testFrom_go (l : List Tk) (b n t s : Nat) (h : pointB l t = true) (hs : ¬ s = b) (hw : ¬ t < wanted l t) : testFrom l b (n + 1) t s = testFrom l b n (t + 1) (s + 1) := by
  rw [testFrom, if_pos h, if_neg hs, if_neg hw]

/-- P7's count of a task, times 2520. -/
def evenOf (x : Tk) (k t : Nat) : Nat :=
  if t < x.d then 0 else
  if t ≤ x.d + (k - 1) * x.t then 2520 * x.c * ((t - x.d) / x.t + 1) else
  2520 * k * x.c + x.c * (t - (x.d + (k - 1) * x.t)) * (2520 / x.t)
def evens : List Tk → Nat → Nat → Nat
  | [], _, _ => 0
  | x :: r, k, t => evenOf x k t + evens r k t
def fitsB (l : List Tk) (k t : Nat) : Bool := decide (evens l k t ≤ 2520 * t)

theorem evens_append (l m : List Tk) (k t : Nat) : evens (l ++ m) k t = evens l k t + evens m k t := by
  induction l with
  | nil => simp [evens]
  | cons x r ih => simp only [List.cons_append, evens, ih]; omega
theorem evens_snoc (l : List Tk) (i : Nat) (h : i < l.length) (k t : Nat) : evens (l.take (i + 1)) k t = evens (l.take i) k t + evenOf l[i] k t := by
  rw [List.take_succ_eq_append_getElem h, evens_append]; simp [evens]

/-- One task's points of Level, from the j-th on. -/
def levelOne (l : List Tk) (x : Tk) (k : Nat) : Nat → Nat → Bool
  | 0, _ => true
  | n + 1, j => fitsB l k (x.d + j * x.t) && levelOne l x k n (j + 1)
def levelAll (l : List Tk) (k : Nat) : List Tk → Bool
  | [] => true
  | x :: r => levelOne l x k k 0 && levelAll l k r

theorem levelOne_iff (l : List Tk) (x : Tk) (k : Nat) : ∀ n j, levelOne l x k n j = true ↔ ∀ i, j ≤ i → i < j + n → fitsB l k (x.d + i * x.t) = true := by
  intro n
  induction n with
  | zero => intro j; simp [levelOne]; intro i h1 h2; omega
  | succ n ih =>
    intro j
    rw [levelOne, Bool.and_eq_true, ih (j + 1)]
    constructor
    · rintro ⟨h0, h⟩ i h1 h2
      rcases Nat.eq_or_lt_of_le h1 with e | e
      · subst e; exact h0
      · exact h i (by omega) (by omega)
    · intro h
      exact ⟨h j (by omega) (by omega), fun i h1 h2 => h i (by omega) (by omega)⟩

theorem levelAll_iff (l : List Tk) (k : Nat) (m : List Tk) : levelAll l k m = true ↔ ∀ x ∈ m, ∀ j, j < k → fitsB l k (x.d + j * x.t) = true := by
  induction m with
  | nil => simp [levelAll]
  | cons x r ih =>
    rw [levelAll, Bool.and_eq_true, levelOne_iff, ih]
    constructor
    · rintro ⟨h0, h⟩ y hy j hj
      cases hy with
      | head => exact h0 j (by omega) (by omega)
      | tail _ hy => exact h y hy j hj
    · intro h
      exact ⟨fun i _ h2 => h x (by simp) i (by omega), fun y hy j hj => h y (by simp [hy]) j hj⟩

/-- The tasks, the one of that number with the work c; what has no work is left out. -/
def withFrom (task c : Nat) : List Tk → Nat → List Tk
  | [], _ => []
  | x :: r, i =>
    if 0 < (if i = task then c else x.c) then (⟨if i = task then c else x.c, x.d, x.t⟩ : Tk) :: withFrom task c r (i + 1) else withFrom task c r (i + 1)
def withC (l : List Tk) (task c : Nat) : List Tk := withFrom task c l 0

theorem withFrom_append (task c : Nat) (l m : List Tk) : ∀ i, withFrom task c (l ++ m) i = withFrom task c l i ++ withFrom task c m (i + l.length) := by
  induction l with
  | nil => intro i; simp [withFrom]
  | cons x r ih =>
    intro i
    simp only [List.cons_append, withFrom, ih (i + 1), List.length_cons]
    rw [show i + 1 + r.length = i + (r.length + 1) by omega]
    by_cases h : 0 < (if i = task then c else x.c)
    · rw [if_pos h, if_pos h]; rfl
    · rw [if_neg h, if_neg h]

theorem withFrom_length (task c : Nat) (l : List Tk) : ∀ i, (withFrom task c l i).length ≤ l.length := by
  induction l with
  | nil => intro i; simp [withFrom]
  | cons x r ih =>
    intro i
    have := ih (i + 1)
    rw [withFrom]
    by_cases h : 0 < (if i = task then c else x.c)
    · rw [if_pos h]; simp only [List.length_cons]; omega
    · rw [if_neg h]; simp only [List.length_cons]; omega

theorem withFrom_mem (task c : Nat) (l : List Tk) : ∀ i, ∀ y ∈ withFrom task c l i, ∃ x ∈ l, (y.c = c ∨ y.c = x.c) ∧ y.d = x.d ∧ y.t = x.t ∧ 1 ≤ y.c := by
  induction l with
  | nil => intro i y hy; simp [withFrom] at hy
  | cons x r ih =>
    intro i y hy
    rw [withFrom] at hy
    by_cases h : 0 < (if i = task then c else x.c)
    · rw [if_pos h] at hy
      cases hy with
      | head =>
        refine ⟨x, by simp, ?_, rfl, rfl, h⟩
        dsimp only
        by_cases e : i = task
        · left; rw [if_pos e]
        · right; rw [if_neg e]
      | tail _ hy =>
        obtain ⟨z, hz, hr⟩ := ih _ y hy
        exact ⟨z, by simp [hz], hr⟩
    · rw [if_neg h] at hy
      obtain ⟨z, hz, hr⟩ := ih _ y hy
      exact ⟨z, by simp [hz], hr⟩

/-- The greatest work up to c with which the set is feasible. -/
def roomFrom (l : List Tk) (task : Nat) : Nat → Nat
  | 0 => 0
  | c + 1 => if feasB (withC l task (c + 1)) = true then c + 1 else roomFrom l task c

end Go.Proofs.Ytdhofmnidlhjpab

namespace Go.Proofs.Ytdhofmnidlhjpab

/-- What a set's tasks are. -/
def okTk (x : Tk) : Prop := 1 ≤ x.c ∧ x.c ≤ x.d ∧ x.d ≤ x.t ∧ x.t ≤ 9

theorem wantedOne_zero (x : Tk) (h : okTk x) : wantedOne x 0 = 0 := by
  unfold wantedOne; rw [if_neg (by unfold okTk at h; omega)]
theorem wanted_zero (l : List Tk) (h : ∀ x ∈ l, okTk x) : wanted l 0 = 0 := by
  induction l with
  | nil => rfl
  | cons x r ih => rw [wanted, wantedOne_zero x (h x (by simp)), ih (fun y hy => h y (by simp [hy]))]

theorem div_step (T a : Nat) (h : ¬ (a + 1) % T = 0) : (a + 1) / T = a / T := by
  rw [Nat.succ_div, if_neg (fun hd => h (Nat.mod_eq_zero_of_dvd hd))]
  rfl

/-- At a time that is no check point no more is wanted than a unit ahead of it. -/
theorem wantedOne_nopoint (x : Tk) (t : Nat) (h : pointOne x (t + 1) = false) : wantedOne x (t + 1) = wantedOne x t := by
  unfold pointOne at h
  unfold wantedOne
  by_cases h1 : x.d ≤ t
  · rw [if_pos (by omega), if_pos h1]
    have h2 : ¬ (t - x.d + 1) % x.t = 0 := by
      intro e
      rw [show t + 1 - x.d = t - x.d + 1 by omega] at h
      simp [e] at h
      omega
    rw [show t + 1 - x.d = t - x.d + 1 by omega, div_step x.t _ h2]
  · by_cases h2 : x.d ≤ t + 1
    · exfalso
      have e : t + 1 - x.d = 0 := by omega
      rw [e] at h
      simp at h
      omega
    · rw [if_neg h2, if_neg h1]

theorem wanted_nopoint (l : List Tk) (t : Nat) (h : pointB l (t + 1) = false) : wanted l (t + 1) = wanted l t := by
  induction l with
  | nil => rfl
  | cons x r ih =>
    rw [pointB, Bool.or_eq_false_iff] at h
    rw [wanted, wanted, wantedOne_nopoint x t h.1, ih h.2]

/-- No check point up to B is passed by what is wanted. -/
def ptsOk (l : List Tk) (B : Nat) : Prop := ∀ t, 1 ≤ t → t ≤ B → pointB l t = true → wanted l t ≤ t

theorem wanted_upto (l : List Tk) (hl : ∀ x ∈ l, okTk x) (B : Nat) (h : ptsOk l B) : ∀ t, t ≤ B → wanted l t ≤ t := by
  intro t
  induction t with
  | zero => intro _; rw [wanted_zero l hl]; omega
  | succ t ih =>
    intro hB
    cases hp : pointB l (t + 1) with
    | true => exact h (t + 1) (by omega) hB hp
    | false => rw [wanted_nopoint l t hp]; have := ih (by omega); omega

theorem ceil_eq (B T : Nat) (hB : 1 ≤ B) (hT : 1 ≤ T) : (B + T - 1) / T = (B - 1) / T + 1 := by
  rw [show B + T - 1 = (B - 1) + T by omega, Nat.add_div_right _ (by omega)]

/-- Behind a time by which all that came ahead of it is done, all begins anew, with no more than at 0. -/
theorem wantedOne_shift (x : Tk) (hx : okTk x) (B t : Nat) (hB : 1 ≤ B) (ht : B ≤ t) : wantedOne x t ≤ comeOne x B + wantedOne x (t - B) := by
  unfold okTk at hx
  unfold wantedOne comeOne
  have hT : 1 ≤ x.t := by omega
  rw [ceil_eq B x.t hB hT]
  have hq : B ≤ x.t * ((B - 1) / x.t + 1) := by
    have h1 := Nat.div_add_mod (B - 1) x.t
    have h2 := Nat.mod_lt (B - 1) (show 0 < x.t by omega)
    rw [Nat.mul_add, Nat.mul_one]; omega
  generalize (B - 1) / x.t = q at *
  by_cases h1 : x.d ≤ t
  · rw [if_pos h1]
    by_cases h2 : x.d ≤ t - B
    · rw [if_pos h2, ← Nat.mul_add]
      refine Nat.mul_le_mul_left _ ?_
      have h3 : (t - x.d) / x.t ≤ (t - B - x.d + x.t * (q + 1)) / x.t := Nat.div_le_div_right (by omega)
      rw [Nat.add_mul_div_left _ _ (by omega)] at h3
      omega
    · rw [if_neg h2, Nat.add_zero]
      refine Nat.mul_le_mul_left _ ?_
      have h3 : (t - x.d) / x.t < q + 1 := by
        rw [Nat.div_lt_iff_lt_mul (by omega), Nat.mul_comm]
        omega
      omega
  · rw [if_neg h1]; omega

theorem wanted_shift (l : List Tk) (hl : ∀ x ∈ l, okTk x) (B t : Nat) (hB : 1 ≤ B) (ht : B ≤ t) : wanted l t ≤ come l B + wanted l (t - B) := by
  induction l with
  | nil => simp [wanted, come]
  | cons x r ih =>
    have h1 := wantedOne_shift x (hl x (by simp)) B t hB ht
    have h2 := ih (fun y hy => hl y (by simp [hy]))
    simp only [wanted, come]
    omega

/-- If no check point up to B is passed, and all that comes ahead of B is B, nothing is ever wanted too much. -/
theorem wanted_all (l : List Tk) (hl : ∀ x ∈ l, okTk x) (B : Nat) (hB : 1 ≤ B) (hc : come l B ≤ B) (h : ptsOk l B) : ∀ t, wanted l t ≤ t := by
  intro t
  induction t using Nat.strongRecOn with
  | _ t ih =>
    by_cases ht : t ≤ B
    · exact wanted_upto l hl B h t ht
    · have h1 := wanted_shift l hl B t hB (by omega)
      have h2 := ih (t - B) (by omega)
      omega

theorem dvd2520 (T : Nat) (h1 : 1 ≤ T) (h9 : T ≤ 9) : T * (2520 / T) = 2520 := by
  have : T = 1 ∨ T = 2 ∨ T = 3 ∨ T = 4 ∨ T = 5 ∨ T = 6 ∨ T = 7 ∨ T = 8 ∨ T = 9 := by omega
  rcases this with h | h | h | h | h | h | h | h | h <;> subst h <;> rfl

/-- By the time 2520 just the load is wanted. -/
theorem wantedOne_span (x : Tk) (hx : okTk x) : wantedOne x 2520 = x.c * (2520 / x.t) := by
  unfold okTk at hx
  have hd := dvd2520 x.t (by omega) (by omega)
  unfold wantedOne
  rw [if_pos (by omega)]
  congr 1
  generalize 2520 / x.t = m at *
  have hm : 1 ≤ m := by
    rcases Nat.eq_zero_or_pos m with e | e
    · subst e; omega
    · exact e
  have e1 : 2520 - x.d = x.t * (m - 1) + (x.t - x.d) := by
    rw [Nat.mul_sub, Nat.mul_one, hd]; omega
  rw [e1, Nat.mul_add_div (by omega), Nat.div_eq_of_lt (by omega)]
  omega

theorem wanted_span (l : List Tk) (hl : ∀ x ∈ l, okTk x) : wanted l 2520 = loadOf l := by
  induction l with
  | nil => rfl
  | cons x r ih => rw [wanted, loadOf, wantedOne_span x (hl x (by simp)), ih (fun y hy => hl y (by simp [hy]))]

theorem heavy_not_feas (l : List Tk) (hl : ∀ x ∈ l, okTk x) (h : heavyB l = true) : feasB l = false := by
  refine feasB_not l 2520 (by omega) (by omega) ?_
  rw [wanted_span l hl]
  simpa [heavyB] using h

theorem comeOne_span (x : Tk) (hx : okTk x) : comeOne x 2520 = x.c * (2520 / x.t) := by
  unfold okTk at hx
  have hd := dvd2520 x.t (by omega) (by omega)
  unfold comeOne
  congr 1
  generalize 2520 / x.t = m at *
  rw [← hd, show x.t * m + x.t - 1 = x.t * m + (x.t - 1) by omega, Nat.mul_add_div (by omega), Nat.div_eq_of_lt (by omega)]
  rfl

theorem come_span (l : List Tk) (hl : ∀ x ∈ l, okTk x) : come l 2520 = loadOf l := by
  induction l with
  | nil => rfl
  | cons x r ih => rw [come, loadOf, comeOne_span x (hl x (by simp)), ih (fun y hy => hl y (by simp [hy]))]

theorem comeOne_mono (x : Tk) (a b : Nat) (h : a ≤ b) : comeOne x a ≤ comeOne x b := by
  unfold comeOne
  exact Nat.mul_le_mul_left _ (Nat.div_le_div_right (by omega))
theorem come_mono (l : List Tk) (a b : Nat) (h : a ≤ b) : come l a ≤ come l b := by
  induction l with
  | nil => simp [come]
  | cons x r ih => have := comeOne_mono x a b h; simp only [come]; omega

theorem come_pos (l : List Tk) (hl : ∀ x ∈ l, okTk x) (hne : l ≠ []) (w : Nat) (hw : 1 ≤ w) : 1 ≤ come l w := by
  cases l with
  | nil => exact absurd rfl hne
  | cons x r =>
    have hx := hl x (by simp)
    unfold okTk at hx
    have h1 : 1 ≤ (w + x.t - 1) / x.t := by rw [Nat.le_div_iff_mul_le (by omega)]; omega
    have h2 : 1 ≤ comeOne x w := Nat.mul_le_mul (show 1 ≤ x.c by omega) h1
    simp only [come]; omega

/-- Where the search begins with more coming than time, and by its end no more, it ends at a fixed point. -/
theorem busyFrom_fix (l : List Tk) : ∀ n w, w ≤ come l w → come l (w + n) ≤ w + n → come l (busyFrom l n w) = busyFrom l n w := by
  intro n
  induction n with
  | zero => intro w h1 h2; simp only [busyFrom]; simp at h2; omega
  | succ n ih =>
    intro w h1 h2
    rw [busyFrom]
    by_cases h : come l w = w
    · rw [if_pos h]; exact h
    · rw [if_neg h]
      refine ih (w + 1) ?_ (by rw [show w + 1 + n = w + (n + 1) by omega]; exact h2)
      have := come_mono l w (w + 1) (by omega)
      omega

/-- Busy is the work of all jobs that come ahead of it. -/
theorem busy_fix (l : List Tk) (hl : ∀ x ∈ l, okTk x) (hne : l ≠ []) (h : heavyB l = false) : come l (busyOf l) = busyOf l := by
  refine busyFrom_fix l 2519 1 (come_pos l hl hne 1 (by omega)) ?_
  show come l 2520 ≤ 2520
  rw [come_span l hl]
  simpa [heavyB] using h

/-- The verdict 1 of a Test that looks at all: no check point up to the end is passed. -/
theorem testFrom_one (l : List Tk) (b : Nat) : ∀ n t s, (testFrom l b n t s).1 = 1 → ∀ u, t ≤ u → u < t + n → pointB l u = true → wanted l u ≤ u := by
  intro n
  induction n with
  | zero => intro t s _ u h1 h2; omega
  | succ n ih =>
    intro t s h u h1 h2 hp
    cases hpt : pointB l t with
    | false =>
      rw [testFrom_nopoint l b n t s hpt] at h
      rcases Nat.eq_or_lt_of_le h1 with e | e
      · subst e; rw [hpt] at hp; cases hp
      · exact ih (t + 1) s h u (by omega) (by omega) hp
    | true =>
      by_cases hs : s = b
      · rw [testFrom_stop l b n t s hpt hs] at h; simp at h
      · by_cases hw : t < wanted l t
        · rw [testFrom_bad l b n t s hpt hs hw] at h; simp at h
        · rw [testFrom_go l b n t s hpt hs hw] at h
          rcases Nat.eq_or_lt_of_le h1 with e | e
          · subst e; omega
          · exact ih (t + 1) (s + 1) h u (by omega) (by omega) hp

/-- Conversely, with a budget that suffices. -/
theorem testFrom_pass (l : List Tk) (b : Nat) : ∀ n t s, s + n ≤ b → (∀ u, t ≤ u → u < t + n → pointB l u = true → wanted l u ≤ u) → testFrom l b n t s = (1, 0) := by
  intro n
  induction n with
  | zero => intro t s _ _; rfl
  | succ n ih =>
    intro t s hb h
    cases hpt : pointB l t with
    | false => rw [testFrom_nopoint l b n t s hpt]; exact ih (t + 1) s (by omega) (fun u h1 h2 hp => h u (by omega) (by omega) hp)
    | true =>
      rw [testFrom_go l b n t s hpt (by omega) (by have := h t (by omega) (by omega) hpt; omega)]
      exact ih (t + 1) (s + 1) (by omega) (fun u h1 h2 hp => h u (by omega) (by omega) hp)

/-- A verdict is 1, 2 or 3; at 2 more is wanted by the time that is told. -/
theorem testFrom_cases (l : List Tk) (b : Nat) : ∀ n t s, testFrom l b n t s = (1, 0) ∨ testFrom l b n t s = (3, 0) ∨ ∃ u, t ≤ u ∧ u < t + n ∧ u < wanted l u ∧ testFrom l b n t s = (2, (u : Int)) := by
  intro n
  induction n with
  | zero => intro t s; left; rfl
  | succ n ih =>
    intro t s
    cases hpt : pointB l t with
    | false =>
      rw [testFrom_nopoint l b n t s hpt]
      rcases ih (t + 1) s with h | h | ⟨u, h1, h2, h3, h4⟩
      · left; exact h
      · right; left; exact h
      · right; right; exact ⟨u, by omega, by omega, h3, h4⟩
    | true =>
      by_cases hs : s = b
      · rw [testFrom_stop l b n t s hpt hs]; right; left; rfl
      · by_cases hw : t < wanted l t
        · rw [testFrom_bad l b n t s hpt hs hw]; right; right; exact ⟨t, by omega, by omega, hw, rfl⟩
        · rw [testFrom_go l b n t s hpt hs hw]
          rcases ih (t + 1) (s + 1) with h | h | ⟨u, h1, h2, h3, h4⟩
          · left; exact h
          · right; left; exact h
          · right; right; exact ⟨u, by omega, by omega, h3, h4⟩

/-- The verdict 1: nothing is ever wanted too much. -/
theorem test_one_all (l : List Tk) (hl : ∀ x ∈ l, okTk x) (hne : l ≠ []) (hh : heavyB l = false) (b : Nat) (h : (testFrom l b (busyOf l) 1 0).1 = 1) : ∀ t, wanted l t ≤ t := by
  refine wanted_all l hl (busyOf l) (busyOf_le l).1 (Nat.le_of_eq (busy_fix l hl hne hh)) ?_
  intro t h1 h2 hp
  exact testFrom_one l b (busyOf l) 1 0 h t h1 (by omega) hp

/-- A feasible set: nothing is ever wanted too much. -/
theorem feas_all (l : List Tk) (hl : ∀ x ∈ l, okTk x) (hne : l ≠ []) (h : feasB l = true) : ∀ t, wanted l t ≤ t := by
  have hh : heavyB l = false := by
    cases e : heavyB l with
    | false => rfl
    | true => rw [heavy_not_feas l hl e] at h; cases h
  refine wanted_all l hl (busyOf l) (busyOf_le l).1 (Nat.le_of_eq (busy_fix l hl hne hh)) ?_
  intro t h1 h2 _
  exact (feasB_iff l).1 h t h1 (by have := (busyOf_le l).2; omega)

theorem all_feas (l : List Tk) (h : ∀ t, wanted l t ≤ t) : feasB l = true := (feasB_iff l).2 (fun t _ _ => h t)

theorem feas_not_heavy (l : List Tk) (hl : ∀ x ∈ l, okTk x) (h : feasB l = true) : heavyB l = false := by
  cases e : heavyB l with
  | false => rfl
  | true => rw [heavy_not_feas l hl e] at h; cases h

/-- Of a feasible set Test says 1, if its budget suffices. -/
theorem feas_test (l : List Tk) (hl : ∀ x ∈ l, okTk x) (h : feasB l = true) (b : Nat) (hb : 2520 ≤ b) : heavyB l = false ∧ testFrom l b (busyOf l) 1 0 = (1, 0) := by
  refine ⟨feas_not_heavy l hl h, testFrom_pass l b (busyOf l) 1 0 (by have := (busyOf_le l).2; omega) ?_⟩
  intro u h1 h2 _
  exact (feasB_iff l).1 h u h1 (by have := (busyOf_le l).2; omega)

end Go.Proofs.Ytdhofmnidlhjpab

namespace Go.Proofs.Ytdhofmnidlhjpab

theorem mul_span (c T q m S : Nat) (h : T * m = S) : c * (T * q) * m = S * (c * q) := by subst h; ac_rfl
theorem mul_span2 (c T m S : Nat) (h : T * m = S) : c * T * m = S * c := by subst h; ac_rfl

/-- A level counts no less than what is wanted. -/
theorem even_ge (x : Tk) (hx : okTk x) (k t : Nat) (hk : 1 ≤ k) : 2520 * wantedOne x t ≤ evenOf x k t := by
  unfold okTk at hx
  have hd := dvd2520 x.t (by omega) (by omega)
  unfold wantedOne evenOf
  by_cases h1 : x.d ≤ t
  · rw [if_pos h1, if_neg (by omega)]
    by_cases h2 : t ≤ x.d + (k - 1) * x.t
    · rw [if_pos h2, Nat.mul_assoc]; omega
    · rw [if_neg h2]
      obtain ⟨r, hr⟩ : ∃ r, r = t - (x.d + (k - 1) * x.t) := ⟨_, rfl⟩
      have e : t - x.d = (k - 1) * x.t + r := by omega
      rw [← hr, e, Nat.mul_comm (k - 1) x.t, Nat.mul_add_div (by omega)]
      have h3 : x.t * (r / x.t) ≤ r := Nat.mul_div_le r x.t
      have h4 : x.c * (x.t * (r / x.t)) * (2520 / x.t) ≤ x.c * r * (2520 / x.t) := Nat.mul_le_mul_right _ (Nat.mul_le_mul_left _ h3)
      have e2 : x.c * (x.t * (r / x.t)) * (2520 / x.t) = 2520 * (x.c * (r / x.t)) := mul_span _ _ _ _ _ hd
      have e3 : 2520 * (x.c * (k - 1 + r / x.t + 1)) = 2520 * k * x.c + 2520 * (x.c * (r / x.t)) := by
        rw [show k - 1 + r / x.t + 1 = k + r / x.t by omega, Nat.mul_add, Nat.mul_add]
        congr 1
        rw [Nat.mul_comm x.c k, ← Nat.mul_assoc]
      rw [e3]
      omega
  · rw [if_neg h1]; omega

theorem evens_ge (l : List Tk) (hl : ∀ x ∈ l, okTk x) (k t : Nat) (hk : 1 ≤ k) : 2520 * wanted l t ≤ evens l k t := by
  induction l with
  | nil => simp [wanted]
  | cons x r ih =>
    have h1 := even_ge x (hl x (by simp)) k t hk
    have h2 := ih (fun y hy => hl y (by simp [hy]))
    simp only [wanted, evens, Nat.mul_add]
    omega

/-- A point of level k of a task. -/
def lpt (x : Tk) (k t : Nat) : Prop := ∃ j, j < k ∧ t = x.d + j * x.t

/-- From t to t + 1, a time that is no point of the task, its count grows by no more than its share. -/
theorem even_step (x : Tk) (hx : okTk x) (k t : Nat) (hk : 1 ≤ k) (hp : ¬ lpt x k (t + 1)) : evenOf x k (t + 1) ≤ evenOf x k t + x.c * (2520 / x.t) := by
  unfold okTk at hx
  unfold evenOf
  by_cases h1 : t + 1 < x.d
  · rw [if_pos h1, if_pos (by omega)]; omega
  · rw [if_neg h1]
    have h1' : x.d ≤ t := by
      rcases Nat.lt_or_ge t x.d with h | h
      · exact absurd ⟨0, by omega, by omega⟩ hp
      · exact h
    rw [if_neg (show ¬ t < x.d by omega)]
    by_cases h2 : t + 1 ≤ x.d + (k - 1) * x.t
    · rw [if_pos h2, if_pos (by omega)]
      have h3 : ¬ (t - x.d + 1) % x.t = 0 := by
        intro e
        have hdm := Nat.div_add_mod (t - x.d + 1) x.t
        rw [e, Nat.add_zero] at hdm
        refine hp ⟨(t - x.d + 1) / x.t, ?_, by rw [Nat.mul_comm]; omega⟩
        have h4 : x.t * ((t - x.d + 1) / x.t) ≤ x.t * (k - 1) := by rw [hdm, Nat.mul_comm x.t]; omega
        have h5 := Nat.le_of_mul_le_mul_left h4 (by omega)
        omega
      rw [show t + 1 - x.d = t - x.d + 1 by omega, div_step x.t _ h3]
      omega
    · rw [if_neg h2]
      by_cases h3 : t ≤ x.d + (k - 1) * x.t
      · rw [if_pos h3]
        have e : t - x.d = (k - 1) * x.t := by omega
        rw [e, Nat.mul_div_cancel _ (by omega), show t + 1 - (x.d + (k - 1) * x.t) = 1 by omega, Nat.mul_one]
        rw [show k - 1 + 1 = k by omega]
        have : 2520 * k * x.c = 2520 * x.c * k := by ac_rfl
        omega
      · rw [if_neg h3, show t + 1 - (x.d + (k - 1) * x.t) = (t - (x.d + (k - 1) * x.t)) + 1 by omega, Nat.mul_add, Nat.mul_one, Nat.add_mul]
        omega

theorem evens_step (l : List Tk) (hl : ∀ x ∈ l, okTk x) (k t : Nat) (hk : 1 ≤ k) (hp : ∀ x ∈ l, ¬ lpt x k (t + 1)) : evens l k (t + 1) ≤ evens l k t + loadOf l := by
  induction l with
  | nil => simp [evens]
  | cons x r ih =>
    have h1 := even_step x (hl x (by simp)) k t hk (hp x (by simp))
    have h2 := ih (fun y hy => hl y (by simp [hy])) (fun y hy => hp y (by simp [hy]))
    simp only [evens, loadOf]
    omega

theorem evens_zero (l : List Tk) (hl : ∀ x ∈ l, okTk x) (k : Nat) : evens l k 0 = 0 := by
  induction l with
  | nil => rfl
  | cons x r ih =>
    have hx := hl x (by simp)
    unfold okTk at hx
    rw [evens, ih (fun y hy => hl y (by simp [hy])), evenOf, if_pos (by omega)]

/-- A level that is passed: at every time the count fits. -/
theorem level_fits (l : List Tk) (hl : ∀ x ∈ l, okTk x) (hh : heavyB l = false) (k : Nat) (hk : 1 ≤ k) (h : levelAll l k l = true) : ∀ t, evens l k t ≤ 2520 * t := by
  have hload : loadOf l ≤ 2520 := by simpa [heavyB] using hh
  have hpts := (levelAll_iff l k l).1 h
  intro t
  induction t with
  | zero => rw [evens_zero l hl]; omega
  | succ t ih =>
    by_cases hp : ∃ x ∈ l, lpt x k (t + 1)
    · obtain ⟨x, hx, j, hj, e⟩ := hp
      have := hpts x hx j hj
      rw [← e] at this
      simpa [fitsB] using this
    · have := evens_step l hl k t hk (fun x hx hq => hp ⟨x, hx, hq⟩)
      omega

theorem level_all (l : List Tk) (hl : ∀ x ∈ l, okTk x) (hh : heavyB l = false) (k : Nat) (hk : 1 ≤ k) (h : levelAll l k l = true) : ∀ t, wanted l t ≤ t := by
  intro t
  have h1 := level_fits l hl hh k hk h t
  have h2 := evens_ge l hl k t hk
  omega

/-- The next level counts no more. -/
theorem even_next (x : Tk) (hx : okTk x) (k t : Nat) (hk : 1 ≤ k) : evenOf x (k + 1) t ≤ evenOf x k t := by
  unfold okTk at hx
  have hd := dvd2520 x.t (by omega) (by omega)
  unfold evenOf
  by_cases h1 : t < x.d
  · rw [if_pos h1, if_pos h1]; omega
  · rw [if_neg h1, if_neg h1]
    obtain ⟨j, rfl⟩ : ∃ j, k = j + 1 := ⟨k - 1, by omega⟩
    rw [show j + 1 + 1 - 1 = j + 1 by omega, show j + 1 - 1 = j by omega]
    have e0 : (j + 1) * x.t = j * x.t + x.t := by rw [Nat.add_mul, Nat.one_mul]
    by_cases h2 : t ≤ x.d + j * x.t
    · rw [if_pos h2, if_pos (by omega)]; omega
    · rw [if_neg h2]
      obtain ⟨r, hr⟩ : ∃ r, r = t - (x.d + j * x.t) := ⟨_, rfl⟩
      rw [← hr]
      by_cases h3 : t ≤ x.d + (j + 1) * x.t
      · rw [if_pos h3]
        have e : t - x.d = x.t * j + r := by rw [Nat.mul_comm]; omega
        rw [e, Nat.mul_add_div (by omega)]
        have h4 : x.t * (r / x.t) ≤ r := Nat.mul_div_le r x.t
        have h5 : x.c * (x.t * (r / x.t)) * (2520 / x.t) ≤ x.c * r * (2520 / x.t) := Nat.mul_le_mul_right _ (Nat.mul_le_mul_left _ h4)
        have e2 : x.c * (x.t * (r / x.t)) * (2520 / x.t) = 2520 * x.c * (r / x.t) := by rw [mul_span _ _ _ _ _ hd, Nat.mul_assoc]
        have e3 : 2520 * x.c * (j + r / x.t + 1) = 2520 * (j + 1) * x.c + 2520 * x.c * (r / x.t) := by
          rw [show j + r / x.t + 1 = (j + 1) + r / x.t by omega, Nat.mul_add]
          congr 1
          ac_rfl
        rw [e3]
        omega
      · rw [if_neg h3]
        obtain ⟨q, hq⟩ : ∃ q, q = t - (x.d + (j + 1) * x.t) := ⟨_, rfl⟩
        have er : r = x.t + q := by omega
        have e4 : x.c * x.t * (2520 / x.t) = 2520 * x.c := mul_span2 _ _ _ _ hd
        have e5 : 2520 * (j + 1 + 1) * x.c = 2520 * (j + 1) * x.c + 2520 * x.c := by rw [Nat.mul_add 2520 (j + 1) 1, Nat.add_mul]
        have e6 : x.c * (x.t + q) * (2520 / x.t) = 2520 * x.c + x.c * q * (2520 / x.t) := by rw [Nat.mul_add, Nat.add_mul, e4]
        rw [← hq, er, e5, e6]
        omega

theorem evens_next (l : List Tk) (hl : ∀ x ∈ l, okTk x) (k t : Nat) (hk : 1 ≤ k) : evens l (k + 1) t ≤ evens l k t := by
  induction l with
  | nil => simp [evens]
  | cons x r ih =>
    have h1 := even_next x (hl x (by simp)) k t hk
    have h2 := ih (fun y hy => hl y (by simp [hy]))
    simp only [evens]
    omega

/-- A level that is passed is passed by the next one too. -/
theorem level_next (l : List Tk) (hl : ∀ x ∈ l, okTk x) (hh : heavyB l = false) (k : Nat) (hk : 1 ≤ k) (h : levelAll l k l = true) : levelAll l (k + 1) l = true := by
  rw [levelAll_iff]
  intro x hx j hj
  have h1 := level_fits l hl hh k hk h (x.d + j * x.t)
  have h2 := evens_next l hl k (x.d + j * x.t) hk
  simp only [fitsB, decide_eq_true_eq]
  omega

end Go.Proofs.Ytdhofmnidlhjpab
