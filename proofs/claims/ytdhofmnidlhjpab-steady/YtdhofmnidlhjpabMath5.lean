/-
  Plain mathematics: the playing of events; no job of a feasible set is late. No program, no walk.
-/
import Derived.Test.YtdhofmnidlhjpabMath
namespace Go.Proofs.Ytdhofmnidlhjpab

/-- What is played: by task what is left of its job, the job's deadline, when the last was let in (below 0: none was); the time; the trace. -/
structure St where
  left : Nat → Nat
  due : Nat → Nat
  last : Nat → Int
  now : Nat
  out : List UInt8

def upd {α : Type} (f : Nat → α) (i : Nat) (v : α) : Nat → α := fun j => if j = i then v else f j
theorem upd_same {α : Type} (f : Nat → α) (i : Nat) (v : α) : upd f i v i = v := by simp [upd]
theorem upd_other {α : Type} (f : Nat → α) (i j : Nat) (v : α) (h : j ≠ i) : upd f i v j = f j := by simp [upd, h]

def tkOf (l : List Tk) (i : Nat) : Tk := l.getD i ⟨0, 0, 0⟩
theorem tkOf_get (l : List Tk) (i : Nat) (h : i < l.length) : tkOf l i = l[i] := by
  unfold tkOf; rw [List.getD_eq_getElem?_getD, List.getElem?_eq_getElem h]; rfl
theorem tkOf_mem (l : List Tk) (i : Nat) (h : i < l.length) : tkOf l i ∈ l := by rw [tkOf_get l i h]; exact List.getElem_mem h

def st0 : St := ⟨fun _ => 0, fun _ => 0, fun _ => -1, 0, []⟩

def tell (st : St) (c : UInt8) : St := { st with out := st.out ++ [c] }

/-- A job of task i that wants n comes. -/
def arrive (l : List Tk) (st : St) (i n : Nat) : St :=
  if n < 1 ∨ (tkOf l i).c < n then tell st 63 else
  if 0 ≤ st.last i ∧ (st.now : Int) - st.last i < (tkOf l i).t then tell st 33 else
  tell { st with left := upd st.left i n, due := upd st.due i (st.now + (tkOf l i).d), last := upd st.last i st.now } 43

/-- The job that is worked at: the earliest deadline, of several the first task's. -/
def pickFrom (st : St) : Nat → Nat → Option Nat → Option Nat
  | 0, _, k => k
  | m + 1, i, none => pickFrom st m (i + 1) (if 0 < st.left i then some i else none)
  | m + 1, i, some k => pickFrom st m (i + 1) (if 0 < st.left i ∧ st.due i < st.due k then some i else some k)
def pick (st : St) (n : Nat) : Option Nat := pickFrom st n 0 none

/-- Is a job late: not done, and the time is its deadline? -/
def lateFrom (st : St) : Nat → Nat → Bool
  | 0, _ => false
  | m + 1, i => (decide (0 < st.left i) && decide (st.due i = st.now)) || lateFrom st m (i + 1)

/-- The state behind the work of a unit of time, ahead of the look for late jobs. -/
def worked (st : St) (k : Nat) : St :=
  { st with left := upd st.left k (st.left k - 1), now := st.now + 1, out := st.out ++ [if st.left k - 1 = 0 then UInt8.ofNat (65 + k) else UInt8.ofNat (97 + k)] }

/-- A unit of time; false: a job is late. -/
def tick (n : Nat) (st : St) : Bool × St :=
  match pick st n with
  | none => (true, tell { st with now := st.now + 1 } 45)
  | some k => if lateFrom (worked st k) n 0 = true then (false, tell (worked st k) 42) else (true, worked st k)

/-- Are these events, of a set of n tasks? -/
def evOk (n : Nat) : List UInt8 → Bool
  | [] => true
  | [b] => b.toNat == 46
  | b :: d :: r => if b.toNat = 46 then evOk n (d :: r) else decide (97 ≤ b.toNat) && decide (b.toNat - 97 < n) && decide (48 ≤ d.toNat) && decide (d.toNat ≤ 57) && evOk n r

/-- The trace of events, from a state on. -/
def traceOf (l : List Tk) : St → List UInt8 → List UInt8
  | st, [] => st.out
  | st, [b] => if b.toNat = 46 then (tick l.length st).2.out else st.out
  | st, b :: d :: r =>
    if b.toNat = 46 then if (tick l.length st).1 = true then traceOf l (tick l.length st).2 (d :: r) else (tick l.length st).2.out
    else traceOf l (arrive l st (b.toNat - 97) (d.toNat - 48)) r

theorem evOk_dot (n : Nat) (b : UInt8) (r : List UInt8) (h : b.toNat = 46) : evOk n (b :: r) = evOk n r := by
  cases r with
  | nil => simp [evOk, h]
  | cons d r => rw [evOk, if_pos h]
theorem evOk_one (n : Nat) (b : UInt8) (h : ¬ b.toNat = 46) : evOk n [b] = false := by simp [evOk, h]
theorem evOk_two (n : Nat) (b d : UInt8) (r : List UInt8) (h : ¬ b.toNat = 46) : evOk n (b :: d :: r) = (decide (97 ≤ b.toNat) && decide (b.toNat - 97 < n) && decide (48 ≤ d.toNat) && decide (d.toNat ≤ 57) && evOk n r) := by
  rw [evOk, if_neg h]
theorem traceOf_dot (l : List Tk) (st : St) (b : UInt8) (r : List UInt8) (h : b.toNat = 46) :
    traceOf l st (b :: r) = if (tick l.length st).1 = true then traceOf l (tick l.length st).2 r else (tick l.length st).2.out := by
  cases r with
  | nil =>
    have e : traceOf l st [b] = (tick l.length st).2.out := by rw [traceOf, if_pos h]
    rw [e]; split <;> rfl
  | cons d r => rw [traceOf, if_pos h]
theorem traceOf_two (l : List Tk) (st : St) (b d : UInt8) (r : List UInt8) (h : ¬ b.toNat = 46) : traceOf l st (b :: d :: r) = traceOf l (arrive l st (b.toNat - 97) (d.toNat - 48)) r := by
  rw [traceOf, if_neg h]

/-! ### The job that is picked -/
theorem pickFrom_some (st : St) : ∀ m i k, ∃ k', pickFrom st m i (some k) = some k' ∧ (k' = k ∨ (i ≤ k' ∧ k' < i + m ∧ 0 < st.left k')) ∧ st.due k' ≤ st.due k ∧ (∀ j, i ≤ j → j < i + m → 0 < st.left j → st.due k' ≤ st.due j) := by
  intro m
  induction m with
  | zero => intro i k; exact ⟨k, rfl, Or.inl rfl, Nat.le_refl _, fun j h1 h2 => by omega⟩
  | succ m ih =>
    intro i k
    rw [pickFrom]
    by_cases h : 0 < st.left i ∧ st.due i < st.due k
    · rw [if_pos h]
      obtain ⟨k', e, hk, hd, hall⟩ := ih (i + 1) i
      refine ⟨k', e, ?_, by omega, fun j h1 h2 h3 => ?_⟩
      · rcases hk with rfl | ⟨a, b, c⟩
        · exact Or.inr ⟨by omega, by omega, h.1⟩
        · exact Or.inr ⟨by omega, by omega, c⟩
      · rcases Nat.eq_or_lt_of_le h1 with e' | e'
        · subst e'; exact hd
        · exact hall j (by omega) (by omega) h3
    · rw [if_neg h]
      obtain ⟨k', e, hk, hd, hall⟩ := ih (i + 1) k
      refine ⟨k', e, ?_, hd, fun j h1 h2 h3 => ?_⟩
      · rcases hk with rfl | ⟨a, b, c⟩
        · exact Or.inl rfl
        · exact Or.inr ⟨by omega, by omega, c⟩
      · rcases Nat.eq_or_lt_of_le h1 with e' | e'
        · subst e'; omega
        · exact hall j (by omega) (by omega) h3

theorem pickFrom_none (st : St) : ∀ m i, (pickFrom st m i none = none ∧ ∀ j, i ≤ j → j < i + m → st.left j = 0) ∨
    ∃ k, pickFrom st m i none = some k ∧ i ≤ k ∧ k < i + m ∧ 0 < st.left k ∧ ∀ j, i ≤ j → j < i + m → 0 < st.left j → st.due k ≤ st.due j := by
  intro m
  induction m with
  | zero => intro i; exact Or.inl ⟨rfl, fun j h1 h2 => by omega⟩
  | succ m ih =>
    intro i
    rw [pickFrom]
    by_cases h : 0 < st.left i
    · rw [if_pos h]
      obtain ⟨k', e, hk, hd, hall⟩ := pickFrom_some st m (i + 1) i
      refine Or.inr ⟨k', e, ?_, ?_, ?_, fun j h1 h2 h3 => ?_⟩
      · rcases hk with rfl | ⟨a, b, c⟩ <;> omega
      · rcases hk with rfl | ⟨a, b, c⟩ <;> omega
      · rcases hk with rfl | ⟨a, b, c⟩ <;> assumption
      · rcases Nat.eq_or_lt_of_le h1 with e' | e'
        · subst e'; exact hd
        · exact hall j (by omega) (by omega) h3
    · rw [if_neg h]
      rcases ih (i + 1) with ⟨e, h0⟩ | ⟨k, e, a, b, c, hall⟩
      · refine Or.inl ⟨e, fun j h1 h2 => ?_⟩
        rcases Nat.eq_or_lt_of_le h1 with e' | e'
        · subst e'; omega
        · exact h0 j (by omega) (by omega)
      · refine Or.inr ⟨k, e, by omega, by omega, c, fun j h1 h2 h3 => ?_⟩
        rcases Nat.eq_or_lt_of_le h1 with e' | e'
        · subst e'; omega
        · exact hall j (by omega) (by omega) h3

theorem pick_cases (st : St) (n : Nat) : (pick st n = none ∧ ∀ j, j < n → st.left j = 0) ∨ ∃ k, pick st n = some k ∧ k < n ∧ 0 < st.left k ∧ ∀ j, j < n → 0 < st.left j → st.due k ≤ st.due j := by
  rcases pickFrom_none st n 0 with ⟨e, h⟩ | ⟨k, e, a, b, c, h⟩
  · exact Or.inl ⟨e, fun j hj => h j (by omega) (by omega)⟩
  · exact Or.inr ⟨k, e, by omega, c, fun j hj hl => h j (by omega) (by omega) hl⟩

theorem lateFrom_false (st : St) : ∀ m i, (∀ j, i ≤ j → j < i + m → 0 < st.left j → st.due j ≠ st.now) → lateFrom st m i = false := by
  intro m
  induction m with
  | zero => intro i _; rfl
  | succ m ih =>
    intro i h
    rw [lateFrom, ih (i + 1) (fun j h1 h2 h3 => h j (by omega) (by omega) h3), Bool.or_false]
    by_cases h0 : 0 < st.left i
    · have := h i (by omega) (by omega) h0
      simp [this]
    · simp [h0]
theorem lateFrom_true (st : St) : ∀ m i j, i ≤ j → j < i + m → 0 < st.left j → st.due j = st.now → lateFrom st m i = true := by
  intro m
  induction m with
  | zero => intro i j h1 h2; omega
  | succ m ih =>
    intro i j h1 h2 h3 h4
    rw [lateFrom]
    rcases Nat.eq_or_lt_of_le h1 with e | e
    · subst e; simp [h3, h4]
    · rw [ih (i + 1) j (by omega) (by omega) h3 h4, Bool.or_true]

/-! ### Sums over the tasks -/
def sumTo (f : Nat → Nat) : Nat → Nat
  | 0 => 0
  | n + 1 => sumTo f n + f n
theorem sumTo_le (f g : Nat → Nat) : ∀ n, (∀ i, i < n → f i ≤ g i) → sumTo f n ≤ sumTo g n := by
  intro n
  induction n with
  | zero => intro _; exact Nat.le_refl _
  | succ n ih =>
    intro h
    have h1 := ih (fun i hi => h i (by omega))
    have h2 := h n (by omega)
    simp only [sumTo]; omega
theorem sumTo_lt (f g : Nat → Nat) : ∀ n k, k < n → (∀ i, i < n → f i ≤ g i) → f k + 1 ≤ g k → sumTo f n + 1 ≤ sumTo g n := by
  intro n
  induction n with
  | zero => intro k hk; omega
  | succ n ih =>
    intro k hk h hlt
    simp only [sumTo]
    rcases Nat.lt_or_ge k n with hkn | hkn
    · have h1 := ih k hkn (fun i hi => h i (by omega)) hlt
      have h2 := h n (by omega)
      omega
    · have e : k = n := by omega
      subst e
      have h1 := sumTo_le f g k (fun i hi => h i (by omega))
      omega
theorem sumTo_one (f : Nat → Nat) : ∀ n k, k < n → f k ≤ sumTo f n := by
  intro n
  induction n with
  | zero => intro k hk; omega
  | succ n ih =>
    intro k hk
    simp only [sumTo]
    rcases Nat.lt_or_ge k n with h | h
    · have := ih k h; omega
    · have e : k = n := by omega
      subst e; omega
theorem sumTo_congr (f g : Nat → Nat) : ∀ n, (∀ i, i < n → f i = g i) → sumTo f n = sumTo g n := by
  intro n
  induction n with
  | zero => intro _; rfl
  | succ n ih =>
    intro h
    simp only [sumTo]
    rw [ih (fun i hi => h i (by omega)), h n (by omega)]

theorem wanted_snocs (l : List Tk) (t : Nat) : ∀ n, n ≤ l.length → wanted (l.take n) t = sumTo (fun i => wantedOne (tkOf l i) t) n := by
  intro n
  induction n with
  | zero => intro _; simp [wanted, sumTo]
  | succ n ih =>
    intro h
    rw [wanted_snoc l n (by omega), ih (by omega), sumTo, tkOf_get l n (by omega)]
theorem wanted_sum (l : List Tk) (t : Nat) : wanted l t = sumTo (fun i => wantedOne (tkOf l i) t) l.length := by
  rw [← wanted_snocs l t l.length (Nat.le_refl _), List.take_length]

theorem wantedOne_mono (x : Tk) (a b : Nat) (h : a ≤ b) : wantedOne x a ≤ wantedOne x b := by
  unfold wantedOne
  by_cases h1 : x.d ≤ a
  · rw [if_pos h1, if_pos (by omega)]
    have : (a - x.d) / x.t ≤ (b - x.d) / x.t := Nat.div_le_div_right (by omega)
    exact Nat.mul_le_mul_left _ (by omega)
  · rw [if_neg h1]; omega

/-- A job, and then the task's others, a period later. -/
theorem wantedOne_unfold (x : Tk) (hx : okTk x) (a : Nat) : wantedOne x a = (if x.d ≤ a then x.c else 0) + wantedOne x (a - x.t) := by
  unfold okTk at hx
  unfold wantedOne
  by_cases h1 : x.d ≤ a
  · rw [if_pos h1, if_pos h1]
    by_cases h2 : x.d ≤ a - x.t
    · rw [if_pos h2]
      have e : a - x.d = (a - x.t - x.d) + x.t := by omega
      rw [e, Nat.add_div_right _ (by omega), Nat.mul_add, Nat.mul_one]
      rw [show (a - x.t - x.d) / x.t + 1 = ((a - x.t - x.d) / x.t).succ from rfl]
      omega
    · rw [if_neg h2]
      have e : (a - x.d) / x.t = 0 := Nat.div_eq_of_lt (by omega)
      rw [e]; omega
  · rw [if_neg h1, if_neg h1, if_neg (by omega)]

/-! ### No job is late -/
/-- When the next job of a task may come, at the earliest. -/
def nextAt (x : Tk) (now : Nat) (z : Int) : Nat := if z < 0 then now else max now (z.toNat + x.t)

/-- What task i may still want by the time d: what is left of its job, if it is due by then, and its jobs to come, as often as they may. -/
def claim (l : List Tk) (st : St) (d i : Nat) : Nat := (if st.due i ≤ d then st.left i else 0) + wantedOne (tkOf l i) (d - nextAt (tkOf l i) st.now (st.last i))

structure EInv (l : List Tk) (st : St) : Prop where
  fit : ∀ d, st.now ≤ d → sumTo (claim l st d) l.length ≤ d - st.now
  pend : ∀ i, i < l.length → 0 < st.left i → st.now ≤ st.due i ∧ 0 ≤ st.last i ∧ (st.due i : Int) = st.last i + (tkOf l i).d
  past : ∀ i, i < l.length → st.last i ≤ st.now

theorem einv_tell {l : List Tk} {st : St} (h : EInv l st) (c : UInt8) : EInv l (tell st c) := ⟨h.fit, h.pend, h.past⟩

theorem einv_start (l : List Tk) (hall : ∀ t, wanted l t ≤ t) : EInv l st0 := by
  refine ⟨fun d _ => ?_, fun i _ h => by simp [st0] at h, fun i _ => by simp [st0]⟩
  have e : sumTo (claim l st0 d) l.length = wanted l d := by
    rw [wanted_sum]
    refine sumTo_congr _ _ _ (fun i _ => ?_)
    simp [claim, st0, nextAt]
  rw [e]
  have := hall d
  show wanted l d ≤ d - 0
  omega

/-- What is not done is due behind now. -/
theorem einv_due {l : List Tk} {st : St} (h : EInv l st) (i : Nat) (hi : i < l.length) (hl : 0 < st.left i) : st.now < st.due i := by
  have h1 := (h.pend i hi hl).1
  rcases Nat.eq_or_lt_of_le h1 with e | e
  · have h2 := h.fit st.now (Nat.le_refl _)
    have h3 := sumTo_one (claim l st st.now) l.length i hi
    have h4 : st.left i ≤ claim l st st.now i := by unfold claim; rw [if_pos (by omega)]; omega
    omega
  · exact e

/-- A job that is let in: the task's last one is done. -/
theorem einv_done {l : List Tk} {st : St} (hl : ∀ x ∈ l, okTk x) (h : EInv l st) (i : Nat) (hi : i < l.length) (hok : ¬ (0 ≤ st.last i ∧ (st.now : Int) - st.last i < (tkOf l i).t)) : st.left i = 0 := by
  rcases Nat.eq_zero_or_pos (st.left i) with e | e
  · exact e
  · have h1 := h.pend i hi e
    have h2 := einv_due h i hi e
    have hx := hl _ (tkOf_mem l i hi)
    unfold okTk at hx
    omega

theorem einv_arrive {l : List Tk} {st : St} (hl : ∀ x ∈ l, okTk x) (h : EInv l st) (i n : Nat) (hi : i < l.length) : EInv l (arrive l st i n) := by
  unfold arrive
  by_cases h1 : n < 1 ∨ (tkOf l i).c < n
  · rw [if_pos h1]; exact einv_tell h _
  · rw [if_neg h1]
    by_cases h2 : 0 ≤ st.last i ∧ (st.now : Int) - st.last i < (tkOf l i).t
    · rw [if_pos h2]; exact einv_tell h _
    · rw [if_neg h2]
      refine einv_tell ?_ _
      have hx := hl _ (tkOf_mem l i hi)
      have hdone := einv_done hl h i hi h2
      refine ⟨fun d hd => ?_, fun j hj hlj => ?_, fun j hj => ?_⟩
      · refine Nat.le_trans (sumTo_le _ (claim l st d) _ (fun j hj => ?_)) (h.fit d hd)
        unfold claim
        by_cases e : j = i
        · subst e
          simp only [upd_same]
          have hn1 : nextAt (tkOf l j) st.now (st.last j) = st.now := by
            unfold nextAt
            by_cases hz : st.last j < 0
            · rw [if_pos hz]
            · rw [if_neg hz]; omega
          have hn2 : nextAt (tkOf l j) st.now (st.now : Int) = st.now + (tkOf l j).t := by
            unfold nextAt
            rw [if_neg (by omega)]; omega
          have hz0 : (if st.due j ≤ d then 0 else 0) = 0 := by split <;> rfl
          rw [hn1, hn2, wantedOne_unfold _ hx (d - st.now), hdone, hz0]
          rw [show d - st.now - (tkOf l j).t = d - (st.now + (tkOf l j).t) by omega]
          by_cases hdd : st.now + (tkOf l j).d ≤ d
          · rw [if_pos hdd, if_pos (show (tkOf l j).d ≤ d - st.now by omega)]; omega
          · rw [if_neg hdd]; omega
        · simp only [upd_other _ _ _ _ e]
          exact Nat.le_refl _
      · by_cases e : j = i
        · subst e
          simp only [upd_same]
          omega
        · simp only [upd_other _ _ _ _ e] at hlj ⊢
          exact h.pend j hj hlj
      · by_cases e : j = i
        · subst e; simp only [upd_same]; omega
        · simp only [upd_other _ _ _ _ e]; exact h.past j hj

theorem nextAt_mono (x : Tk) (now : Nat) (z : Int) : nextAt x now z ≤ nextAt x (now + 1) z ∧ now ≤ nextAt x now z := by
  unfold nextAt
  by_cases h : z < 0
  · rw [if_pos h, if_pos h]; omega
  · rw [if_neg h, if_neg h]; omega

/-- Behind a unit of time in which the picked job was worked at, or there was none. -/
theorem einv_step {l : List Tk} {st st' : St} (hall : ∀ t, wanted l t ≤ t) (h : EInv l st) (hnow : st'.now = st.now + 1) (hdue : st'.due = st.due) (hlast : st'.last = st.last)
    (hleft : (∀ j, j < l.length → st.left j = 0 ∧ st'.left j = 0) ∨ ∃ k, k < l.length ∧ 0 < st.left k ∧ (∀ j, j < l.length → 0 < st.left j → st.due k ≤ st.due j) ∧ st'.left = upd st.left k (st.left k - 1)) : EInv l st' := by
  have hle : ∀ j, j < l.length → st'.left j ≤ st.left j := by
    intro j hj
    rcases hleft with h0 | ⟨k, hk, hp, hmin, e⟩
    · have := h0 j hj; omega
    · rw [e]
      by_cases ej : j = k
      · subst ej; rw [upd_same]; omega
      · rw [upd_other _ _ _ _ ej]; exact Nat.le_refl _
  refine ⟨fun d hd => ?_, fun j hj hlj => ?_, fun j hj => ?_⟩
  · rw [hnow] at hd ⊢
    have hcl : ∀ j, j < l.length → claim l st' d j ≤ claim l st d j := by
      intro j hj
      unfold claim
      rw [hdue, hlast, hnow]
      have h1 := hle j hj
      have h2 := wantedOne_mono (tkOf l j) (d - nextAt (tkOf l j) (st.now + 1) (st.last j)) (d - nextAt (tkOf l j) st.now (st.last j)) (by have := (nextAt_mono (tkOf l j) st.now (st.last j)).1; omega)
      by_cases h3 : st.due j ≤ d
      · rw [if_pos h3, if_pos h3]; omega
      · rw [if_neg h3, if_neg h3]; omega
    by_cases hp : ∃ k, k < l.length ∧ 0 < st.left k ∧ st.due k ≤ d
    · obtain ⟨j, hj, hlj, hdj⟩ := hp
      rcases hleft with h0 | ⟨k, hk, hpk, hmin, e⟩
      · have := h0 j hj; omega
      · have hdk : st.due k ≤ d := Nat.le_trans (hmin j hj hlj) hdj
        have h4 := sumTo_lt (claim l st' d) (claim l st d) l.length k hk hcl (by
          have h5 := wantedOne_mono (tkOf l k) (d - nextAt (tkOf l k) (st.now + 1) (st.last k)) (d - nextAt (tkOf l k) st.now (st.last k)) (by have := (nextAt_mono (tkOf l k) st.now (st.last k)).1; omega)
          unfold claim
          rw [hdue, hlast, hnow, if_pos hdk, if_pos hdk, e, upd_same]
          omega)
        have h6 := h.fit d (by omega)
        omega
    · have h7 : sumTo (claim l st' d) l.length ≤ sumTo (fun i => wantedOne (tkOf l i) (d - (st.now + 1))) l.length := by
        refine sumTo_le _ _ _ (fun j hj => ?_)
        unfold claim
        rw [hdue, hlast, hnow]
        have h8 := wantedOne_mono (tkOf l j) (d - nextAt (tkOf l j) (st.now + 1) (st.last j)) (d - (st.now + 1)) (by have := (nextAt_mono (tkOf l j) (st.now + 1) (st.last j)).2; omega)
        by_cases h3 : st.due j ≤ d
        · have h9 : st.left j = 0 := by
            rcases Nat.eq_zero_or_pos (st.left j) with e | e
            · exact e
            · exact absurd ⟨j, hj, e, h3⟩ hp
          have := hle j hj
          rw [if_pos h3]; omega
        · rw [if_neg h3]; omega
      rw [← wanted_sum] at h7
      have := hall (d - (st.now + 1))
      omega
  · have hlj' : 0 < st.left j := Nat.lt_of_lt_of_le hlj (hle j hj)
    have h1 := h.pend j hj hlj'
    have h2 := einv_due h j hj hlj'
    rw [hnow, hdue, hlast]
    omega
  · rw [hlast, hnow]
    have := h.past j hj
    omega

/-- Of a set by which nothing is ever wanted too much no unit of time ends with a late job. -/
theorem einv_tick {l : List Tk} {st : St} (hall : ∀ t, wanted l t ≤ t) (h : EInv l st) : (tick l.length st).1 = true ∧ EInv l (tick l.length st).2 := by
  unfold tick
  rcases pick_cases st l.length with ⟨e, h0⟩ | ⟨k, e, hk, hp, hmin⟩
  · rw [e]
    dsimp only
    exact ⟨rfl, einv_tell (einv_step (st' := { st with now := st.now + 1 }) hall h rfl rfl rfl (Or.inl (fun j hj => ⟨h0 j hj, h0 j hj⟩))) _⟩
  · rw [e]
    have hw : EInv l (worked st k) := einv_step hall h rfl rfl rfl (Or.inr ⟨k, hk, hp, hmin, rfl⟩)
    have hl : lateFrom (worked st k) l.length 0 = false := by
      refine lateFrom_false _ _ _ (fun j _ hj hlj => ?_)
      have := einv_due hw j (by omega) hlj
      omega
    dsimp only
    rw [if_neg (by simp [hl])]
    exact ⟨rfl, hw⟩

end Go.Proofs.Ytdhofmnidlhjpab

namespace Go.Proofs.Ytdhofmnidlhjpab

/-- Behind m bytes of events a state's numbers are no greater than so. -/
structure Bnd (l : List Tk) (st : St) (m : Nat) : Prop where
  now : st.now ≤ m
  out : st.out.length ≤ 2 * m
  left : ∀ i, i < l.length → st.left i ≤ 9
  due : ∀ i, i < l.length → st.due i ≤ m + 9
  last : ∀ i, i < l.length → -1 ≤ st.last i ∧ st.last i ≤ m

theorem bnd_start (l : List Tk) : Bnd l st0 0 := ⟨Nat.le_refl _, Nat.zero_le _, fun _ _ => by simp [st0], fun _ _ => by simp [st0], fun _ _ => by simp [st0]⟩

theorem bnd_mono {l : List Tk} {st : St} {m m' : Nat} (h : Bnd l st m) (hm : m ≤ m') : Bnd l st m' :=
  ⟨Nat.le_trans h.now hm, by have := h.out; omega, h.left, fun i hi => by have := h.due i hi; omega, fun i hi => by have := h.last i hi; omega⟩

theorem bnd_tell {l : List Tk} {st : St} {m : Nat} (h : Bnd l st m) (c : UInt8) : Bnd l (tell st c) (m + 1) := by
  have h' := bnd_mono h (show m ≤ m + 1 by omega)
  refine ⟨h'.now, ?_, h'.left, h'.due, h'.last⟩
  have := h.out
  simp only [tell, List.length_append, List.length_cons, List.length_nil]
  omega

theorem bnd_arrive {l : List Tk} {st : St} {m : Nat} (hx : ∀ x ∈ l, x.c ≤ 9 ∧ x.d ≤ 9 ∧ 1 ≤ x.t ∧ x.t ≤ 9) (h : Bnd l st m) (i n : Nat) (hi : i < l.length) : Bnd l (arrive l st i n) (m + 1) := by
  unfold arrive
  by_cases h1 : n < 1 ∨ (tkOf l i).c < n
  · rw [if_pos h1]; exact bnd_tell h _
  · rw [if_neg h1]
    by_cases h2 : 0 ≤ st.last i ∧ (st.now : Int) - st.last i < (tkOf l i).t
    · rw [if_pos h2]; exact bnd_tell h _
    · rw [if_neg h2]
      have hxi := hx _ (tkOf_mem l i hi)
      have hnow := h.now
      refine bnd_tell ?_ _
      refine ⟨h.now, h.out, fun j hj => ?_, fun j hj => ?_, fun j hj => ?_⟩
      · by_cases e : j = i
        · subst e; simp only [upd_same]; omega
        · simp only [upd_other _ _ _ _ e]; exact h.left j hj
      · by_cases e : j = i
        · subst e; simp only [upd_same]; omega
        · simp only [upd_other _ _ _ _ e]; exact h.due j hj
      · by_cases e : j = i
        · subst e; simp only [upd_same]; omega
        · simp only [upd_other _ _ _ _ e]; exact h.last j hj

theorem bnd_tick {l : List Tk} {st : St} {m : Nat} (h : Bnd l st m) (n : Nat) : Bnd l (tick n st).2 (m + 1) := by
  have h' := bnd_mono h (show m ≤ m + 1 by omega)
  have hnow := h.now
  have hout := h.out
  unfold tick
  cases pick st n with
  | none =>
    dsimp only
    refine ⟨by simp only [tell]; omega, by simp only [tell, List.length_append, List.length_cons, List.length_nil]; omega, h'.left, h'.due, h'.last⟩
  | some k =>
    have hw : ∀ i, i < l.length → (worked st k).left i ≤ 9 := by
      intro i hi
      simp only [worked]
      by_cases e : i = k
      · subst e; rw [upd_same]; have := h.left i hi; omega
      · rw [upd_other _ _ _ _ e]; exact h.left i hi
    dsimp only
    by_cases hl : lateFrom (worked st k) n 0 = true
    · rw [if_pos hl]
      refine ⟨by simp only [tell, worked]; omega, by simp only [tell, worked, List.length_append, List.length_cons, List.length_nil]; omega, hw, h'.due, h'.last⟩
    · rw [if_neg hl]
      refine ⟨by simp only [worked]; omega, by simp only [worked, List.length_append, List.length_cons, List.length_nil]; omega, hw, h'.due, h'.last⟩

end Go.Proofs.Ytdhofmnidlhjpab

namespace Go.Proofs.Ytdhofmnidlhjpab

theorem tick_out (n : Nat) (st : St) : ∃ r, (tick n st).2.out = st.out ++ r := by
  unfold tick
  cases pick st n with
  | none => exact ⟨[45], rfl⟩
  | some k =>
    dsimp only
    split
    · exact ⟨_ ++ [42], by simp only [tell, worked, List.append_assoc]; rfl⟩
    · exact ⟨_, rfl⟩

/-- The byte for a job that comes. -/
def arrByte (l : List Tk) (st : St) (i n : Nat) : UInt8 :=
  if n < 1 ∨ (tkOf l i).c < n then 63 else if 0 ≤ st.last i ∧ (st.now : Int) - st.last i < (tkOf l i).t then 33 else 43

theorem arrive_out (l : List Tk) (st : St) (i n : Nat) : (arrive l st i n).out = st.out ++ [arrByte l st i n] := by
  unfold arrive arrByte
  split
  · rfl
  · split <;> rfl

theorem trace_prefix (l : List Tk) : ∀ (n : Nat) (ev : List UInt8) (st : St), ev.length ≤ n → ∃ r, traceOf l st ev = st.out ++ r := by
  intro n
  induction n with
  | zero =>
    intro ev st h
    have e : ev = [] := List.length_eq_zero_iff.1 (by omega)
    subst e
    exact ⟨[], by simp [traceOf]⟩
  | succ n ih =>
    intro ev st h
    match ev, h with
    | [], _ => exact ⟨[], by simp [traceOf]⟩
    | [b], _ =>
      by_cases hb : b.toNat = 46
      · rw [traceOf, if_pos hb]; exact tick_out _ _
      · rw [traceOf, if_neg hb]; exact ⟨[], by simp⟩
    | b :: d :: r, h =>
      simp only [List.length_cons] at h
      by_cases hb : b.toNat = 46
      · rw [traceOf, if_pos hb]
        obtain ⟨r1, h1⟩ := tick_out l.length st
        split
        · obtain ⟨r2, h2⟩ := ih (d :: r) (tick l.length st).2 (by simp only [List.length_cons]; omega)
          exact ⟨r1 ++ r2, by rw [h2, h1, List.append_assoc]⟩
        · exact ⟨r1, h1⟩
      · rw [traceOf, if_neg hb]
        obtain ⟨r2, h2⟩ := ih r (arrive l st (b.toNat - 97) (d.toNat - 48)) (by omega)
        exact ⟨_, by rw [h2, arrive_out, List.append_assoc]⟩

/-- The trace's next byte, where the state behind the event is known. -/
theorem trace_at (l : List Tk) (st : St) (ev tr p : List UInt8) (c : UInt8) (h : tr = traceOf l st ev) (ho : st.out = p ++ [c]) : ∃ hi : p.length < tr.length, tr[p.length] = c := by
  obtain ⟨r, hr⟩ := trace_prefix l ev.length ev st (Nat.le_refl _)
  have e : tr = p ++ c :: r := by rw [h, hr, ho, List.append_assoc]; rfl
  subst e
  exact ⟨by simp, by simp⟩

/-- What the book needs of a state: no job is late; beyond the tasks there is nothing. -/
structure KInv (l : List Tk) (st : St) (m : Nat) : Prop where
  einv : EInv l st
  bnd : Bnd l st m
  far : ∀ i, l.length ≤ i → st.left i = 0 ∧ st.due i = 0

theorem kinv_start (l : List Tk) (hall : ∀ t, wanted l t ≤ t) : KInv l st0 0 := ⟨einv_start l hall, bnd_start l, fun _ _ => ⟨rfl, rfl⟩⟩

theorem kinv_arrive {l : List Tk} {st : St} {m : Nat} (hl : ∀ x ∈ l, okTk x) (hx : ∀ x ∈ l, x.c ≤ 9 ∧ x.d ≤ 9 ∧ 1 ≤ x.t ∧ x.t ≤ 9) (h : KInv l st m) (i n : Nat) (hi : i < l.length) : KInv l (arrive l st i n) (m + 1) := by
  refine ⟨einv_arrive hl h.einv i n hi, bnd_arrive hx h.bnd i n hi, fun j hj => ?_⟩
  unfold arrive
  split
  · exact h.far j hj
  · split
    · exact h.far j hj
    · simp only [tell]
      rw [upd_other _ _ _ _ (by omega), upd_other _ _ _ _ (by omega)]
      exact h.far j hj

/-- A unit of time of a feasible set: idle, and then nothing is left; or a job is worked at. -/
theorem kinv_tick {l : List Tk} {st : St} {m : Nat} (hall : ∀ t, wanted l t ≤ t) (h : KInv l st m) :
    (tick l.length st = (true, tell { st with now := st.now + 1 } 45) ∧ (∀ i, st.left i = 0) ∧ KInv l (tell { st with now := st.now + 1 } 45) (m + 1)) ∨
    ∃ k, k < l.length ∧ 0 < st.left k ∧ tick l.length st = (true, worked st k) ∧ KInv l (worked st k) (m + 1) := by
  have h1 := einv_tick hall h.einv
  have h2 := bnd_tick h.bnd l.length
  rcases pick_cases st l.length with ⟨e, h0⟩ | ⟨k, e, hk, hp, hmin⟩
  · left
    have ht : tick l.length st = (true, tell { st with now := st.now + 1 } 45) := by unfold tick; rw [e]
    rw [ht] at h1 h2
    refine ⟨ht, fun i => ?_, h1.2, h2, h.far⟩
    rcases Nat.lt_or_ge i l.length with hi | hi
    · exact h0 i hi
    · exact (h.far i hi).1
  · right
    have ht : tick l.length st = if lateFrom (worked st k) l.length 0 = true then (false, tell (worked st k) 42) else (true, worked st k) := by unfold tick; rw [e]
    have hl : ¬ lateFrom (worked st k) l.length 0 = true := by
      intro hl
      rw [ht, if_pos hl] at h1
      simp at h1
    rw [if_neg hl] at ht
    rw [ht] at h1 h2
    refine ⟨k, hk, hp, ht, h1.2, h2, fun j hj => ?_⟩
    simp only [worked]
    rw [upd_other _ _ _ _ (by omega)]
    exact h.far j hj

/-- No job that is left is due by now. -/
theorem kinv_late {l : List Tk} {st : St} {m : Nat} (h : KInv l st m) (i : Nat) (hi : 0 < st.left i) : st.now < st.due i := by
  rcases Nat.lt_or_ge i l.length with hl | hl
  · exact einv_due h.einv i hl hi
  · have := (h.far i hl).1; omega
theorem kinv_left {l : List Tk} {st : St} {m : Nat} (h : KInv l st m) (i : Nat) : st.left i ≤ 9 := by
  rcases Nat.lt_or_ge i l.length with hl | hl
  · exact h.bnd.left i hl
  · have := (h.far i hl).1; omega
theorem kinv_due {l : List Tk} {st : St} {m : Nat} (h : KInv l st m) (i : Nat) : st.due i ≤ m + 9 := by
  rcases Nat.lt_or_ge i l.length with hl | hl
  · exact h.bnd.due i hl
  · have := (h.far i hl).2; omega

end Go.Proofs.Ytdhofmnidlhjpab
