/-
  Plain mathematics: events as they are read, and their playing one by one. No program, no walk.
-/
import Derived.Test.YtdhofmnidlhjpabMath5
namespace Go.Proofs.Ytdhofmnidlhjpab

/-- An event: a unit of time, or a job of a task that comes. -/
structure Ev where
  unit : Bool
  task : Nat
  work : Nat

def evsOf : List UInt8 → List Ev
  | [] => []
  | [b] => if b.toNat = 46 then [⟨true, 0, 0⟩] else []
  | b :: d :: r => if b.toNat = 46 then ⟨true, 0, 0⟩ :: evsOf (d :: r) else ⟨false, b.toNat - 97, d.toNat - 48⟩ :: evsOf r

theorem evsOf_dot (b : UInt8) (r : List UInt8) (h : b.toNat = 46) : evsOf (b :: r) = ⟨true, 0, 0⟩ :: evsOf r := by
  cases r with
  | nil => simp [evsOf, h]
  | cons d r => rw [evsOf, if_pos h]
theorem evsOf_two (b d : UInt8) (r : List UInt8) (h : ¬ b.toNat = 46) : evsOf (b :: d :: r) = ⟨false, b.toNat - 97, d.toNat - 48⟩ :: evsOf r := by
  rw [evsOf, if_neg h]

theorem evsOf_ok (n : Nat) : ∀ (m : Nat) (ev : List UInt8), ev.length ≤ m → evOk n ev = true → (evsOf ev).length ≤ ev.length ∧ ∀ e ∈ evsOf ev, (e.unit = true ∧ e.task = 0 ∧ e.work = 0) ∨ (e.unit = false ∧ e.task < n ∧ e.work ≤ 9) := by
  intro m
  induction m with
  | zero =>
    intro ev h _
    have e : ev = [] := List.length_eq_zero_iff.1 (by omega)
    subst e
    simp [evsOf]
  | succ m ih =>
    intro ev h hok
    match ev, h, hok with
    | [], _, _ => simp [evsOf]
    | b :: r, h, hok =>
      simp only [List.length_cons] at h
      by_cases hb : b.toNat = 46
      · rw [evOk_dot _ _ _ hb] at hok
        obtain ⟨h1, h2⟩ := ih r (by omega) hok
        rw [evsOf_dot _ _ hb]
        refine ⟨by simp only [List.length_cons]; omega, fun e he => ?_⟩
        rcases List.mem_cons.1 he with rfl | he
        · exact .inl ⟨rfl, rfl, rfl⟩
        · exact h2 e he
      · cases r with
        | nil => rw [evOk_one _ _ hb] at hok; cases hok
        | cons d r =>
          rw [evOk_two _ _ _ _ hb] at hok
          simp only [Bool.and_eq_true, decide_eq_true_eq] at hok
          obtain ⟨h1, h2⟩ := ih r (by simp only [List.length_cons] at h; omega) hok.2
          rw [evsOf_two _ _ _ hb]
          refine ⟨by simp only [List.length_cons]; omega, fun e he => ?_⟩
          rcases List.mem_cons.1 he with rfl | he
          · exact .inr ⟨rfl, hok.1.1.1.2, by simp only; omega⟩
          · exact h2 e he

/-- The state behind a unit of time, ahead of the look for late jobs. -/
def mid (n : Nat) (st : St) : St :=
  match pick st n with
  | none => tell { st with now := st.now + 1 } 45
  | some k => worked st k

theorem tick_mid (n : Nat) (st : St) : tick n st = if lateFrom (mid n st) n 0 = true then (false, tell (mid n st) 42) else (true, mid n st) := by
  unfold tick mid
  rcases pick_cases st n with ⟨e, h0⟩ | ⟨k, e, _⟩
  · rw [e]
    dsimp only
    rw [lateFrom_false _ _ _ (fun j _ hj hl => by
      have h1 : st.left j = 0 := h0 j (by omega)
      have h2 : 0 < st.left j := hl
      omega)]
    rfl
  · rw [e]

/-- Is a job late: not done, and its deadline is now or was? -/
def lateLe (st : St) : Nat → Nat → Bool
  | 0, _ => false
  | m + 1, i => (decide (0 < st.left i) && decide (st.due i ≤ st.now)) || lateLe st m (i + 1)

theorem lateLe_eq (st : St) : ∀ m i, (∀ j, i ≤ j → j < i + m → 0 < st.left j → st.now ≤ st.due j) → lateLe st m i = lateFrom st m i := by
  intro m
  induction m with
  | zero => intro i _; rfl
  | succ m ih =>
    intro i h
    rw [lateLe, lateFrom, ih (i + 1) (fun j h1 h2 h3 => h j (by omega) (by omega) h3)]
    by_cases h0 : 0 < st.left i
    · have h1 := h i (by omega) (by omega) h0
      have e : (st.due i ≤ st.now) = (st.due i = st.now) := propext ⟨fun _ => by omega, fun _ => by omega⟩
      simp only [e]
    · simp [h0]

def stepEv (l : List Tk) (st : St) (e : Ev) : St := if e.unit = true then mid l.length st else arrive l st e.task e.work

/-- The playing of events, the late ones asked for behind each. -/
def runEv (l : List Tk) : St → List Ev → List UInt8
  | st, [] => st.out
  | st, e :: r => if lateLe (stepEv l st e) l.length 0 = true then (stepEv l st e).out ++ [42] else runEv l (stepEv l st e) r

/-- No job is late. -/
def NL (l : List Tk) (st : St) : Prop := ∀ i, i < l.length → 0 < st.left i → st.now < st.due i

theorem nl_start (l : List Tk) : NL l st0 := fun i _ h => by simp [st0] at h

theorem nl_arrive {l : List Tk} {st : St} (hd : ∀ x ∈ l, 1 ≤ x.d) (h : NL l st) (i n : Nat) (hi : i < l.length) : NL l (arrive l st i n) := by
  unfold arrive
  split
  · exact h
  · split
    · exact h
    · intro j hj hl
      simp only [tell] at hl ⊢
      by_cases e : j = i
      · subst e
        rw [upd_same]
        have := hd _ (tkOf_mem l j hi)
        omega
      · rw [upd_other _ _ _ _ e] at hl ⊢
        exact h j hj hl

theorem nl_mid {l : List Tk} {st : St} (h : NL l st) : ∀ i, i < l.length → 0 < (mid l.length st).left i → (mid l.length st).now ≤ (mid l.length st).due i := by
  unfold mid
  rcases pick_cases st l.length with ⟨e, h0⟩ | ⟨k, e, hk, hp, _⟩
  · rw [e]
    intro i hi hl
    have h1 : 0 < st.left i := hl
    have := h0 i hi
    omega
  · rw [e]
    intro i hi hl
    have h1 : 0 < st.left i := by
      have h2 : 0 < upd st.left k (st.left k - 1) i := hl
      by_cases ei : i = k
      · subst ei; exact hp
      · rw [upd_other _ _ _ _ ei] at h2; exact h2
    have := h i hi h1
    show st.now + 1 ≤ st.due i
    omega

/-- Behind an event: what is late is due just now. -/
theorem step_late {l : List Tk} {st : St} (hd : ∀ x ∈ l, 1 ≤ x.d) (h : NL l st) (e : Ev) (he : e.unit = true ∨ e.task < l.length) : lateLe (stepEv l st e) l.length 0 = lateFrom (stepEv l st e) l.length 0 := by
  refine lateLe_eq _ _ _ (fun j _ hj hl => ?_)
  unfold stepEv at hl ⊢
  by_cases hu : e.unit = true
  · rw [if_pos hu] at hl ⊢
    exact nl_mid h j (by omega) hl
  · rw [if_neg hu] at hl ⊢
    exact Nat.le_of_lt (nl_arrive hd h e.task e.work (by rcases he with he | he; exact absurd he hu; exact he) j (by omega) hl)

theorem nl_step {l : List Tk} {st : St} (hd : ∀ x ∈ l, 1 ≤ x.d) (h : NL l st) (e : Ev) (he : e.unit = true ∨ e.task < l.length) (hn : lateLe (stepEv l st e) l.length 0 = false) : NL l (stepEv l st e) := by
  rw [step_late hd h e he] at hn
  intro j hj hl
  have h1 : (stepEv l st e).now ≤ (stepEv l st e).due j := by
    unfold stepEv at hl ⊢
    by_cases hu : e.unit = true
    · rw [if_pos hu] at hl ⊢
      exact nl_mid h j hj hl
    · rw [if_neg hu] at hl ⊢
      exact Nat.le_of_lt (nl_arrive hd h e.task e.work (by rcases he with he | he; exact absurd he hu; exact he) j hj hl)
  rcases Nat.eq_or_lt_of_le h1 with e1 | e1
  · rw [lateFrom_true _ _ _ j (Nat.zero_le _) (by omega) hl e1.symm] at hn; cases hn
  · exact e1

theorem runEv_trace (l : List Tk) (hd : ∀ x ∈ l, 1 ≤ x.d) : ∀ (m : Nat) (ev : List UInt8) (st : St), ev.length ≤ m → evOk l.length ev = true → NL l st → runEv l st (evsOf ev) = traceOf l st ev := by
  intro m
  induction m with
  | zero =>
    intro ev st h _ _
    have e : ev = [] := List.length_eq_zero_iff.1 (by omega)
    subst e
    rfl
  | succ m ih =>
    intro ev st h hok hnl
    match ev, h, hok with
    | [], _, _ => rfl
    | b :: r, h, hok =>
      simp only [List.length_cons] at h
      by_cases hb : b.toNat = 46
      · rw [evOk_dot _ _ _ hb] at hok
        have hs : stepEv l st ⟨true, 0, 0⟩ = mid l.length st := rfl
        have h1 := step_late hd hnl ⟨true, 0, 0⟩ (.inl rfl)
        have h2 := nl_step hd hnl ⟨true, 0, 0⟩ (.inl rfl)
        rw [hs] at h1 h2
        rw [evsOf_dot _ _ hb, traceOf_dot _ _ _ _ hb, runEv, hs, tick_mid, h1]
        rw [h1] at h2
        cases hl : lateFrom (mid l.length st) l.length 0
        · simp only [Bool.false_eq_true, if_false, if_true]
          exact ih r _ (by omega) hok (h2 hl)
        · simp only [if_true, Bool.false_eq_true, if_false]
          rfl
      · cases r with
        | nil => rw [evOk_one _ _ hb] at hok; cases hok
        | cons d r =>
          rw [evOk_two _ _ _ _ hb] at hok
          simp only [Bool.and_eq_true, decide_eq_true_eq] at hok
          have hi := hok.1.1.1.2
          have hs : stepEv l st ⟨false, b.toNat - 97, d.toNat - 48⟩ = arrive l st (b.toNat - 97) (d.toNat - 48) := rfl
          have h1 := step_late hd hnl ⟨false, b.toNat - 97, d.toNat - 48⟩ (.inr hi)
          have h3 := nl_arrive hd hnl (b.toNat - 97) (d.toNat - 48) hi
          rw [hs] at h1
          have h4 : lateFrom (arrive l st (b.toNat - 97) (d.toNat - 48)) l.length 0 = false := lateFrom_false _ _ _ (fun j _ hj hl => by have := h3 j (by omega) hl; omega)
          rw [evsOf_two _ _ _ hb, traceOf_two _ _ _ _ _ hb, runEv, hs, h1, h4]
          simp only [Bool.false_eq_true, if_false]
          exact ih r _ (by simp only [List.length_cons] at h; omega) hok.2 h3

/-! ### The byte for an event -/
def markOf (l : List Tk) (st : St) (e : Ev) : Nat :=
  if e.unit = true then (match pick st l.length with | none => 45 | some k => if st.left k - 1 = 0 then 65 + k else 97 + k) else (arrByte l st e.task e.work).toNat

theorem step_out (l : List Tk) (st : St) (e : Ev) : (stepEv l st e).out = st.out ++ [UInt8.ofNat (markOf l st e)] := by
  unfold stepEv markOf
  by_cases hu : e.unit = true
  · rw [if_pos hu, if_pos hu]
    unfold mid
    cases pick st l.length with
    | none => rfl
    | some k =>
      dsimp only
      show st.out ++ [_] = _
      split <;> rfl
  · rw [if_neg hu, if_neg hu, arrive_out]
    simp

theorem markOf_lt (l : List Tk) (h8 : l.length ≤ 8) (st : St) (e : Ev) : markOf l st e < 256 := by
  unfold markOf
  by_cases hu : e.unit = true
  · rw [if_pos hu]
    rcases pick_cases st l.length with ⟨e1, _⟩ | ⟨k, e1, hk, _⟩
    · rw [e1]; simp
    · rw [e1]; dsimp only; split <;> omega
  · rw [if_neg hu]; exact UInt8.toNat_lt _

theorem bnd_mid {l : List Tk} {st : St} {m : Nat} (h : Bnd l st m) (n : Nat) : Bnd l (mid n st) (m + 1) := by
  have h' := bnd_mono h (show m ≤ m + 1 by omega)
  have hnow := h.now
  have hout := h.out
  unfold mid
  cases pick st n with
  | none =>
    dsimp only
    refine ⟨by simp only [tell]; omega, by simp only [tell, List.length_append, List.length_cons, List.length_nil]; omega, h'.left, h'.due, h'.last⟩
  | some k =>
    dsimp only
    refine ⟨by simp only [worked]; omega, by simp only [worked, List.length_append, List.length_cons, List.length_nil]; omega, fun i hi => ?_, h'.due, h'.last⟩
    simp only [worked]
    by_cases e : i = k
    · subst e; rw [upd_same]; have := h.left i hi; omega
    · rw [upd_other _ _ _ _ e]; exact h.left i hi

theorem bnd_step {l : List Tk} {st : St} {m : Nat} (hx : ∀ x ∈ l, x.c ≤ 9 ∧ x.d ≤ 9 ∧ 1 ≤ x.t ∧ x.t ≤ 9) (h : Bnd l st m) (e : Ev) (he : e.unit = true ∨ e.task < l.length) : Bnd l (stepEv l st e) (m + 1) := by
  unfold stepEv
  by_cases hu : e.unit = true
  · rw [if_pos hu]; exact bnd_mid h _
  · rw [if_neg hu]; exact bnd_arrive hx h _ _ (by rcases he with he | he; exact absurd he hu; exact he)

theorem pick_now (st : St) (m : Nat) : ∀ n i k, pickFrom { st with now := m } n i k = pickFrom st n i k := by
  intro n
  induction n with
  | zero => intro i k; rfl
  | succ n ih =>
    intro i k
    cases k with
    | none => rw [pickFrom, pickFrom, ih]
    | some k => rw [pickFrom, pickFrom, ih]
end Go.Proofs.Ytdhofmnidlhjpab
