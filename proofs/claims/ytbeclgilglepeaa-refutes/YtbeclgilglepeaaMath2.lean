/-
  Plain mathematics of sets of tasks: what the tests look at. No program, no walk.
-/
import Derived.Test.YtbeclgilglepeaaMath
namespace Go.Proofs.Ytbeclgilglepeaa

/-- The sum of C/T, in parts of 2520. -/
def loadOf : List Tk → Nat
  | [] => 0
  | x :: r => x.c * (2520 / x.t) + loadOf r

def heavyB (l : List Tk) : Bool := decide (2520 < loadOf l)

theorem loadOf_append (l m : List Tk) : loadOf (l ++ m) = loadOf l + loadOf m := by
  induction l with
  | nil => simp [loadOf]
  | cons x r ih => simp only [List.cons_append, loadOf, ih]; omega

theorem loadOf_snoc (l : List Tk) (k : Nat) (h : k < l.length) : loadOf (l.take (k + 1)) = loadOf (l.take k) + l[k].c * (2520 / l[k].t) := by
  rw [List.take_succ_eq_append_getElem h, loadOf_append]; simp [loadOf]

theorem loadOf_le (l : List Tk) (hc : ∀ x ∈ l, x.c ≤ 9) : loadOf l ≤ l.length * (9 * 2520) := by
  induction l with
  | nil => simp [loadOf]
  | cons x r ih =>
    have h1 : x.c * (2520 / x.t) ≤ 9 * 2520 := Nat.mul_le_mul (hc x (by simp)) (Nat.div_le_self _ _)
    have h2 := ih (fun y hy => hc y (by simp [hy]))
    simp only [loadOf, List.length_cons, Nat.add_mul]
    omega

/-- No more than t is wanted by every t from 1 to 2520. -/
def feasB (l : List Tk) : Bool := (List.range 2520).all fun i => decide (wanted l (i + 1) ≤ i + 1)

theorem feasB_iff (l : List Tk) : feasB l = true ↔ ∀ t, 1 ≤ t → t ≤ 2520 → wanted l t ≤ t := by
  unfold feasB
  rw [List.all_eq_true]
  constructor
  · intro h t h1 h2
    have := h (t - 1) (by rw [List.mem_range]; omega)
    rw [show t - 1 + 1 = t by omega] at this
    simpa using this
  · intro h i hi
    rw [List.mem_range] at hi
    simpa using h (i + 1) (by omega) (by omega)

theorem feasB_not (l : List Tk) (t : Nat) (h1 : 1 ≤ t) (h2 : t ≤ 2520) (h3 : t < wanted l t) : feasB l = false := by
  cases h : feasB l with
  | false => rfl
  | true => have := (feasB_iff l).1 h t h1 h2; omega

/-- The work of all jobs that come ahead of w. -/
def comeOne (x : Tk) (w : Nat) : Nat := x.c * ((w + x.t - 1) / x.t)
def come : List Tk → Nat → Nat
  | [], _ => 0
  | x :: r, w => comeOne x w + come r w

theorem come_append (l m : List Tk) (w : Nat) : come (l ++ m) w = come l w + come m w := by
  induction l with
  | nil => simp [come]
  | cons x r ih => simp only [List.cons_append, come, ih]; omega

theorem come_snoc (l : List Tk) (k : Nat) (h : k < l.length) (w : Nat) : come (l.take (k + 1)) w = come (l.take k) w + comeOne l[k] w := by
  rw [List.take_succ_eq_append_getElem h, come_append]; simp [come]

theorem comeOne_le (x : Tk) (w : Nat) (hc : x.c ≤ 9) (ht : x.t ≤ 9) : comeOne x w ≤ 9 * (w + 9) := by
  unfold comeOne
  have h1 : (w + x.t - 1) / x.t ≤ w + x.t - 1 := Nat.div_le_self _ _
  exact Nat.mul_le_mul hc (by omega)

theorem come_le (l : List Tk) (w : Nat) (hc : ∀ x ∈ l, x.c ≤ 9 ∧ x.t ≤ 9) : come l w ≤ l.length * (9 * (w + 9)) := by
  induction l with
  | nil => simp [come]
  | cons x r ih =>
    have h1 := comeOne_le x w (hc x (by simp)).1 (hc x (by simp)).2
    have h2 := ih (fun y hy => hc y (by simp [hy]))
    simp only [come, List.length_cons, Nat.add_mul]
    omega

/-- The least w from here on, before the fuel ends, that is the work of all jobs that come ahead of it. -/
def busyFrom (l : List Tk) : Nat → Nat → Nat
  | 0, w => w
  | n + 1, w => if come l w = w then w else busyFrom l n (w + 1)

def busyOf (l : List Tk) : Nat := busyFrom l 2519 1

theorem busyFrom_hit (l : List Tk) (n w : Nat) (h : come l w = w) : busyFrom l n w = w := by
  cases n with
  | zero => rfl
  | succ n => rw [busyFrom, if_pos h]

theorem busyFrom_miss (l : List Tk) (n w : Nat) (h : ¬ come l w = w) : busyFrom l (n + 1) w = busyFrom l n (w + 1) := by
  rw [busyFrom, if_neg h]

theorem busyFrom_le (l : List Tk) : ∀ n w, w ≤ busyFrom l n w ∧ busyFrom l n w ≤ w + n := by
  intro n
  induction n with
  | zero => intro w; simp [busyFrom]
  | succ n ih =>
    intro w
    rw [busyFrom]
    by_cases h : come l w = w
    · rw [if_pos h]; omega
    · rw [if_neg h]; have := ih (w + 1); omega

theorem busyOf_le (l : List Tk) : 1 ≤ busyOf l ∧ busyOf l ≤ 2520 := by
  have := busyFrom_le l 2519 1
  unfold busyOf; omega

/-- A check point. -/
def pointOne (x : Tk) (t : Nat) : Bool := decide (x.d ≤ t) && decide ((t - x.d) % x.t = 0)
def pointB : List Tk → Nat → Bool
  | [], _ => false
  | x :: r, t => pointOne x t || pointB r t

theorem pointB_hit (l : List Tk) (k : Nat) (h : k < l.length) (t : Nat) (hp : pointOne l[k] t = true) : pointB (l.drop k) t = true := by
  rw [List.drop_eq_getElem_cons h, pointB, hp]; rfl
theorem pointB_miss (l : List Tk) (k : Nat) (h : k < l.length) (t : Nat) (hp : pointOne l[k] t = false) : pointB (l.drop k) t = pointB (l.drop (k + 1)) t := by
  rw [List.drop_eq_getElem_cons h, pointB, hp]; rfl
theorem pointB_end (l : List Tk) (k : Nat) (h : l.length ≤ k) (t : Nat) : pointB (l.drop k) t = false := by
  rw [List.drop_eq_nil_of_le h, pointB]

/-- The looking of Test, from the time t on, n times more, 'seen' check points having been looked at. -/
def testFrom (l : List Tk) (budget : Nat) : Nat → Nat → Nat → Int × Int
  | 0, _, _ => (1, 0)
  | n + 1, t, seen =>
    if pointB l t = true then
      if seen = budget then (3, 0) else if t < wanted l t then (2, (t : Int)) else testFrom l budget n (t + 1) (seen + 1)
    else testFrom l budget n (t + 1) seen

theorem testFrom_nopoint (l : List Tk) (b n t s : Nat) (h : pointB l t = false) : testFrom l b (n + 1) t s = testFrom l b n (t + 1) s := by
  rw [testFrom, if_neg (by simp [h])]
theorem testFrom_stop (l : List Tk) (b n t s : Nat) (h : pointB l t = true) (hs : s = b) : testFrom l b (n + 1) t s = (3, 0) := by
  rw [testFrom, if_pos h, if_pos hs]
theorem testFrom_bad (l : List Tk) (b n t s : Nat) (h : pointB l t = true) (hs : ¬ s = b) (hw : t < wanted l t) : testFrom l b (n + 1) t s = (2, (t : Int)) := by
  rw [testFrom, if_pos h, if_neg hs, if_pos hw]
theorem testFrom_go (l : List Tk) (b n t s : Nat) (h : pointB l t = true) (hs : ¬ s = b) (hw : ¬ t < wanted l t) : testFrom l b (n + 1) t s = testFrom l b n (t + 1) (s + 1) := by
  rw [testFrom, if_pos h, if_neg hs, if_neg hw]

/-- P7's count of a task, times 2520. -/
def evenOf (x : Tk) (k t : Nat) : Nat :=
  if t < x.d then 0 else
  if t ≤ x.d + (k - 1) * x.t then 2520 * x.c * ((t - x.d) / x.t + 1) else
  2520 * k * x.c + x.c * (t - (x.d + (k - 1) * x.t)) * (2520 / x.t)
def evens : List Tk → Nat → Nat → Nat
  | [], _, _ => 0
  | x :: r, k, t => evenOf x k t + evens r k t
def fitsB (l : List Tk) (k t : Nat) : Bool := decide (evens l k t ≤ 2520 * t)

theorem evens_append (l m : List Tk) (k t : Nat) : evens (l ++ m) k t = evens l k t + evens m k t := by
  induction l with
  | nil => simp [evens]
  | cons x r ih => simp only [List.cons_append, evens, ih]; omega
theorem evens_snoc (l : List Tk) (i : Nat) (h : i < l.length) (k t : Nat) : evens (l.take (i + 1)) k t = evens (l.take i) k t + evenOf l[i] k t := by
  rw [List.take_succ_eq_append_getElem h, evens_append]; simp [evens]

/-- One task's points of Level, from the j-th on. -/
def levelOne (l : List Tk) (x : Tk) (k : Nat) : Nat → Nat → Bool
  | 0, _ => true
  | n + 1, j => fitsB l k (x.d + j * x.t) && levelOne l x k n (j + 1)
def levelAll (l : List Tk) (k : Nat) : List Tk → Bool
  | [] => true
  | x :: r => levelOne l x k k 0 && levelAll l k r

theorem levelOne_iff (l : List Tk) (x : Tk) (k : Nat) : ∀ n j, levelOne l x k n j = true ↔ ∀ i, j ≤ i → i < j + n → fitsB l k (x.d + i * x.t) = true := by
  intro n
  induction n with
  | zero => intro j; simp [levelOne]; intro i h1 h2; omega
  | succ n ih =>
    intro j
    rw [levelOne, Bool.and_eq_true, ih (j + 1)]
    constructor
    · rintro ⟨h0, h⟩ i h1 h2
      rcases Nat.eq_or_lt_of_le h1 with e | e
      · subst e; exact h0
      · exact h i (by omega) (by omega)
    · intro h
      exact ⟨h j (by omega) (by omega), fun i h1 h2 => h i (by omega) (by omega)⟩

theorem levelAll_iff (l : List Tk) (k : Nat) (m : List Tk) : levelAll l k m = true ↔ ∀ x ∈ m, ∀ j, j < k → fitsB l k (x.d + j * x.t) = true := by
  induction m with
  | nil => simp [levelAll]
  | cons x r ih =>
    rw [levelAll, Bool.and_eq_true, levelOne_iff, ih]
    constructor
    · rintro ⟨h0, h⟩ y hy j hj
      cases hy with
      | head => exact h0 j (by omega) (by omega)
      | tail _ hy => exact h y hy j hj
    · intro h
      exact ⟨fun i _ h2 => h x (by simp) i (by omega), fun y hy j hj => h y (by simp [hy]) j hj⟩

/-- The tasks, the one of that number with the work c; what has no work is left out. -/
def withFrom (task c : Nat) : List Tk → Nat → List Tk
  | [], _ => []
  | x :: r, i =>
    if 0 < (if i = task then c else x.c) then (⟨if i = task then c else x.c, x.d, x.t⟩ : Tk) :: withFrom task c r (i + 1) else withFrom task c r (i + 1)
def withC (l : List Tk) (task c : Nat) : List Tk := withFrom task c l 0

theorem withFrom_append (task c : Nat) (l m : List Tk) : ∀ i, withFrom task c (l ++ m) i = withFrom task c l i ++ withFrom task c m (i + l.length) := by
  induction l with
  | nil => intro i; simp [withFrom]
  | cons x r ih =>
    intro i
    simp only [List.cons_append, withFrom, ih (i + 1), List.length_cons]
    rw [show i + 1 + r.length = i + (r.length + 1) by omega]
    by_cases h : 0 < (if i = task then c else x.c)
    · rw [if_pos h, if_pos h]; rfl
    · rw [if_neg h, if_neg h]

theorem withFrom_length (task c : Nat) (l : List Tk) : ∀ i, (withFrom task c l i).length ≤ l.length := by
  induction l with
  | nil => intro i; simp [withFrom]
  | cons x r ih =>
    intro i
    have := ih (i + 1)
    rw [withFrom]
    by_cases h : 0 < (if i = task then c else x.c)
    · rw [if_pos h]; simp only [List.length_cons]; omega
    · rw [if_neg h]; simp only [List.length_cons]; omega

theorem withFrom_mem (task c : Nat) (l : List Tk) : ∀ i, ∀ y ∈ withFrom task c l i, ∃ x ∈ l, (y.c = c ∨ y.c = x.c) ∧ y.d = x.d ∧ y.t = x.t ∧ 1 ≤ y.c := by
  induction l with
  | nil => intro i y hy; simp [withFrom] at hy
  | cons x r ih =>
    intro i y hy
    rw [withFrom] at hy
    by_cases h : 0 < (if i = task then c else x.c)
    · rw [if_pos h] at hy
      cases hy with
      | head =>
        refine ⟨x, by simp, ?_, rfl, rfl, h⟩
        dsimp only
        by_cases e : i = task
        · left; rw [if_pos e]
        · right; rw [if_neg e]
      | tail _ hy =>
        obtain ⟨z, hz, hr⟩ := ih _ y hy
        exact ⟨z, by simp [hz], hr⟩
    · rw [if_neg h] at hy
      obtain ⟨z, hz, hr⟩ := ih _ y hy
      exact ⟨z, by simp [hz], hr⟩

/-- The greatest work up to c with which the set is feasible. -/
def roomFrom (l : List Tk) (task : Nat) : Nat → Nat
  | 0 => 0
  | c + 1 => if feasB (withC l task (c + 1)) = true then c + 1 else roomFrom l task c

end Go.Proofs.Ytbeclgilglepeaa
