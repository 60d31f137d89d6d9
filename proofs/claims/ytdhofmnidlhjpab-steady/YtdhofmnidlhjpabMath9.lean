/-
  Plain mathematics: jobs that come as soon as they may; where too much is wanted, one of them is late. No program, no walk.
-/
import Derived.Test.YtdhofmnidlhjpabMath5
import Derived.Test.YtdhofmnidlhjpabTBroken
import Derived.Test.YtdhofmnidlhjpabMath7
import Derived.Test.YtdhofmnidlhjpabRDemand
namespace Go.Proofs.Ytdhofmnidlhjpab

theorem sumTo_add9 (f g : Nat → Nat) (n : Nat) : sumTo (fun i => f i + g i) n = sumTo f n + sumTo g n := by
  induction n with
  | zero => rfl
  | succ n ih => simp only [sumTo, ih]; omega
/-- One place turned. -/
theorem sumTo_upd9 (f : Nat → Nat) (k v : Nat) : ∀ n, k < n → sumTo (upd f k v) n + f k = sumTo f n + v := by
  intro n
  induction n with
  | zero => intro h; omega
  | succ n ih =>
    intro h
    simp only [sumTo]
    by_cases e : k = n
    · subst e
      rw [sumTo_congr (upd f k v) f k (fun i hi => upd_other _ _ _ _ (by omega)), upd_same]
      omega
    · have := ih (by omega)
      rw [upd_other _ _ _ _ (by omega)]
      omega
theorem sumTo_ones (n : Nat) : sumTo (fun _ => 1) n = n := by
  induction n with
  | zero => rfl
  | succ n ih => simp only [sumTo, ih]

theorem lateFrom_no (st : St) (n : Nat) (h : lateFrom st n 0 = false) (i : Nat) (hi : i < n) (hp : 0 < st.left i) : st.due i ≠ st.now := by
  intro e
  rw [lateFrom_true st n 0 i (Nat.zero_le _) (by omega) hp e] at h
  cases h

/-- Of task i, q i jobs came, each as soon as it may, each with all that it may want; none is late. -/
structure SInv (l : List Tk) (st : St) (q : Nat → Nat) : Prop where
  lf : ∀ i, i < l.length → st.left i ≤ (tkOf l i).c
  late : ∀ i, i < l.length → 0 < st.left i → st.now < st.due i
  job : ∀ i m, i < l.length → q i = m + 1 → st.due i = m * (tkOf l i).t + (tkOf l i).d ∧ st.last i = ((m * (tkOf l i).t : Nat) : Int)
  none : ∀ i, i < l.length → q i = 0 → st.left i = 0 ∧ st.last i = -1
  work : sumTo (fun i => q i * (tkOf l i).c) l.length ≤ st.now + sumTo st.left l.length

theorem sinv_congr {l : List Tk} {st : St} {q q' : Nat → Nat} (h : SInv l st q) (e : ∀ i, i < l.length → q i = q' i) : SInv l st q' := by
  refine ⟨h.lf, h.late, fun i m hi hm => h.job i m hi (by rw [e i hi]; exact hm), fun i hi hm => h.none i hi (by rw [e i hi]; exact hm), ?_⟩
  rw [sumTo_congr (fun i => q' i * (tkOf l i).c) (fun i => q i * (tkOf l i).c) _ (fun i hi => by rw [e i hi])]
  exact h.work

theorem sinv_start (l : List Tk) : SInv l st0 (fun _ => 0) := by
  refine ⟨fun _ _ => Nat.zero_le _, fun i _ h => ?_, fun i m _ h => ?_, fun _ _ _ => ⟨rfl, rfl⟩, ?_⟩
  · simp [st0] at h
  · simp at h
  · have : sumTo (fun i => 0 * (tkOf l i).c) l.length = sumTo st0.left l.length := sumTo_congr _ _ _ (fun i _ => by simp [st0])
    rw [this]; omega

theorem sinv_arrive {l : List Tk} {st : St} {q : Nat → Nat} (hl : ∀ x ∈ l, okTk x) (h : SInv l st q) (i : Nat) (hi : i < l.length) (hq : q i * (tkOf l i).t = st.now) :
    arrive l st i (tkOf l i).c = tell { st with left := upd st.left i (tkOf l i).c, due := upd st.due i (st.now + (tkOf l i).d), last := upd st.last i st.now } 43 ∧ SInv l (arrive l st i (tkOf l i).c) (upd q i (q i + 1)) := by
  have hx := hl _ (tkOf_mem l i hi)
  unfold okTk at hx
  have hz : st.left i = 0 := by
    rcases Nat.eq_zero_or_pos (st.left i) with e | e
    · exact e
    · exfalso
      have h1 := h.late i hi e
      cases hqi : q i with
      | zero => have := (h.none i hi hqi).1; omega
      | succ m =>
        have h2 := (h.job i m hi hqi).1
        rw [hqi, Nat.succ_mul] at hq
        omega
  have hlast : ¬ (0 ≤ st.last i ∧ (st.now : Int) - st.last i < (tkOf l i).t) := by
    rintro ⟨a, b⟩
    cases hqi : q i with
    | zero => have := (h.none i hi hqi).2; omega
    | succ m =>
      have h2 := (h.job i m hi hqi).2
      rw [hqi, Nat.succ_mul] at hq
      omega
  have e : arrive l st i (tkOf l i).c = tell { st with left := upd st.left i (tkOf l i).c, due := upd st.due i (st.now + (tkOf l i).d), last := upd st.last i st.now } 43 := by
    unfold arrive
    rw [if_neg (by omega), if_neg hlast]
  refine ⟨e, ?_⟩
  rw [e]
  refine ⟨fun j hj => ?_, fun j hj hp => ?_, fun j m hj hm => ?_, fun j hj hm => ?_, ?_⟩
  · show upd st.left i _ j ≤ _
    by_cases ej : j = i
    · subst ej; rw [upd_same]; omega
    · rw [upd_other _ _ _ _ ej]; exact h.lf j hj
  · show st.now < upd st.due i _ j
    by_cases ej : j = i
    · subst ej; rw [upd_same]; omega
    · rw [upd_other _ _ _ _ ej]
      refine h.late j hj ?_
      have hp' : 0 < upd st.left i (tkOf l i).c j := hp
      rw [upd_other _ _ _ _ ej] at hp'
      exact hp'
  · show upd st.due i _ j = _ ∧ upd st.last i _ j = _
    by_cases ej : j = i
    · subst ej
      rw [upd_same] at hm ⊢
      rw [upd_same]
      have : m = q j := by omega
      subst this
      exact ⟨by omega, by rw [hq]⟩
    · rw [upd_other _ _ _ _ ej] at hm ⊢
      rw [upd_other _ _ _ _ ej]
      exact h.job j m hj hm
  · show upd st.left i _ j = _ ∧ upd st.last i _ j = _
    by_cases ej : j = i
    · subst ej; rw [upd_same] at hm; omega
    · rw [upd_other _ _ _ _ ej] at hm ⊢
      rw [upd_other _ _ _ _ ej]
      exact h.none j hj hm
  · show _ ≤ st.now + sumTo (upd st.left i (tkOf l i).c) l.length
    have h1 := h.work
    have h2 := sumTo_upd9 st.left i (tkOf l i).c l.length hi
    have h3 := sumTo_upd9 (fun j => q j * (tkOf l j).c) i ((q i + 1) * (tkOf l i).c) l.length hi
    have h4 : sumTo (fun j => upd q i (q i + 1) j * (tkOf l j).c) l.length = sumTo (upd (fun j => q j * (tkOf l j).c) i ((q i + 1) * (tkOf l i).c)) l.length := by
      refine sumTo_congr _ _ _ (fun j _ => ?_)
      by_cases ej : j = i
      · subst ej; rw [upd_same, upd_same]
      · rw [upd_other _ _ _ _ ej, upd_other _ _ _ _ ej]
    rw [h4]
    simp only [Nat.succ_mul] at h3 ⊢
    omega

theorem sinv_tick {l : List Tk} {st : St} {q : Nat → Nat} (h : SInv l st q) : (tick l.length st).1 = true → SInv l (tick l.length st).2 q ∧ (tick l.length st).2.now = st.now + 1 := by
  unfold tick
  rcases pick_cases st l.length with ⟨e, h0⟩ | ⟨k, e, hk, hpk, _⟩
  · rw [e]
    intro _
    refine ⟨⟨h.lf, fun i hi hp => ?_, h.job, h.none, ?_⟩, rfl⟩
    · have : 0 < st.left i := hp
      have := h0 i hi
      omega
    · have := h.work
      show _ ≤ st.now + 1 + sumTo st.left l.length
      omega
  · rw [e]
    simp only
    cases hlt : lateFrom (worked st k) l.length 0 with
    | true => simp
    | false =>
      intro _
      refine ⟨⟨fun i hi => ?_, fun i hi hp => ?_, h.job, fun i hi hm => ?_, ?_⟩, rfl⟩
      · show upd st.left k _ i ≤ _
        have := h.lf i hi
        by_cases ei : i = k
        · subst ei; rw [upd_same]; omega
        · rw [upd_other _ _ _ _ ei]; exact this
      · have h1 := lateFrom_no (worked st k) l.length hlt i hi hp
        have hp' : 0 < upd st.left k (st.left k - 1) i := hp
        have h2 : 0 < st.left i := by
          by_cases ei : i = k
          · subst ei; exact hpk
          · rw [upd_other _ _ _ _ ei] at hp'; exact hp'
        have h3 := h.late i hi h2
        have h4 : st.due i ≠ st.now + 1 := h1
        show st.now + 1 < st.due i
        omega
      · have h1 := h.none i hi hm
        refine ⟨?_, h1.2⟩
        show upd st.left k _ i = 0
        by_cases ei : i = k
        · subst ei; rw [upd_same]; omega
        · rw [upd_other _ _ _ _ ei]; exact h1.1
      · show _ ≤ st.now + 1 + sumTo (upd st.left k (st.left k - 1)) l.length
        have h1 := sumTo_upd9 st.left k (st.left k - 1) l.length hk
        have := h.work
        omega

/-- All that must be done by now was done. -/
theorem sinv_wanted {l : List Tk} {st : St} {q : Nat → Nat} (hl : ∀ x ∈ l, okTk x) (h : SInv l st q) (hq : ∀ i, i < l.length → st.now ≤ q i * (tkOf l i).t) : wanted l st.now ≤ st.now := by
  have h1 : sumTo (fun i => wantedOne (tkOf l i) st.now + st.left i) l.length ≤ sumTo (fun i => q i * (tkOf l i).c) l.length := by
    refine sumTo_le _ _ _ (fun i hi => ?_)
    have hx := hl _ (tkOf_mem l i hi)
    unfold okTk at hx
    have hqi := hq i hi
    have hlf := h.lf i hi
    have ht : 0 < (tkOf l i).t := by omega
    show wantedOne (tkOf l i) st.now + st.left i ≤ q i * (tkOf l i).c
    unfold wantedOne
    cases hm : q i with
    | zero =>
      rw [(h.none i hi hm).1, if_neg (by rw [hm] at hqi; omega)]
      omega
    | succ m =>
      have hj := (h.job i m hi hm).1
      rw [hm] at hqi
      by_cases hp : 0 < st.left i
      · have h2 := h.late i hi hp
        by_cases hd : (tkOf l i).d ≤ st.now
        · rw [if_pos hd]
          have h3 : (st.now - (tkOf l i).d) / (tkOf l i).t < m := (Nat.div_lt_iff_lt_mul ht).2 (by omega)
          have h4 : (tkOf l i).c * ((st.now - (tkOf l i).d) / (tkOf l i).t + 1) ≤ (tkOf l i).c * m := Nat.mul_le_mul_left _ h3
          rw [Nat.succ_mul, Nat.mul_comm m]
          omega
        · rw [if_neg hd, Nat.succ_mul]
          have := Nat.zero_le (m * (tkOf l i).c)
          omega
      · have h0 : st.left i = 0 := by omega
        rw [h0]
        by_cases hd : (tkOf l i).d ≤ st.now
        · rw [if_pos hd]
          have h3 : (st.now - (tkOf l i).d) / (tkOf l i).t < m + 1 := (Nat.div_lt_iff_lt_mul ht).2 (by omega)
          have h4 : (tkOf l i).c * ((st.now - (tkOf l i).d) / (tkOf l i).t + 1) ≤ (tkOf l i).c * (m + 1) := Nat.mul_le_mul_left _ h3
          rw [Nat.mul_comm (m + 1)]
          omega
        · rw [if_neg hd]; omega
  rw [sumTo_add9, ← wanted_sum] at h1
  have := h.work
  omega

/-! ### The events -/
/-- How many jobs of a task came ahead of time a; and at a too. -/
def qPre (x : Tk) (a : Nat) : Nat := (a + x.t - 1) / x.t
def qPost (x : Tk) (a : Nat) : Nat := a / x.t + 1
def qMid (l : List Tk) (a k : Nat) : Nat → Nat := fun i => if i < k then qPost (tkOf l i) a else qPre (tkOf l i) a

theorem qPre_next (x : Tk) (a : Nat) (ht : 0 < x.t) : qPre x (a + 1) = qPost x a := by
  unfold qPre qPost
  rw [show a + 1 + x.t - 1 = a + x.t by omega, Nat.add_div_right _ ht]
theorem qPre_hit (x : Tk) (a : Nat) (ht : 0 < x.t) (h : a % x.t = 0) : qPre x a * x.t = a ∧ qPost x a = qPre x a + 1 := by
  obtain ⟨m, rfl⟩ := Nat.dvd_of_mod_eq_zero h
  have e : qPre x (x.t * m) = m := by
    unfold qPre
    rw [show x.t * m + x.t - 1 = x.t * m + (x.t - 1) by omega, Nat.mul_add_div ht, Nat.div_eq_of_lt (by omega)]
    omega
  have e2 : qPost x (x.t * m) = m + 1 := by
    unfold qPost
    rw [Nat.mul_div_cancel_left _ ht]
  rw [e, e2]
  exact ⟨Nat.mul_comm _ _, rfl⟩
theorem qPre_miss (x : Tk) (a : Nat) (ht : 0 < x.t) (h : a % x.t ≠ 0) : qPost x a = qPre x a := by
  unfold qPre qPost
  have h1 := Nat.div_add_mod a x.t
  have h2 := Nat.mod_lt a ht
  obtain ⟨m, hm⟩ : ∃ m, m = a / x.t := ⟨_, rfl⟩
  obtain ⟨r, hr⟩ : ∃ r, r = a % x.t := ⟨_, rfl⟩
  rw [← hm, ← hr] at h1
  rw [← hr] at h h2
  rw [← hm, ← h1, show x.t * m + r + x.t - 1 = x.t * (m + 1) + (r - 1) by rw [Nat.mul_succ]; omega, Nat.mul_add_div ht, Nat.div_eq_of_lt (by omega)]
theorem qPre_ge (x : Tk) (a : Nat) (ht : 0 < x.t) : a ≤ qPre x a * x.t := by
  by_cases h : a % x.t = 0
  · rw [(qPre_hit x a ht h).1]; exact Nat.le_refl _
  · rw [← qPre_miss x a ht h]
    unfold qPost
    have h1 := Nat.div_add_mod a x.t
    have h2 := Nat.mod_lt a ht
    rw [Nat.succ_mul, Nat.mul_comm]
    omega

/-- The jobs of the tasks k to k + m - 1 that come at time a. -/
def arrEv (l : List Tk) (a : Nat) : Nat → Nat → List UInt8
  | 0, _ => []
  | m + 1, k => if a % (tkOf l k).t = 0 then UInt8.ofNat (97 + k) :: UInt8.ofNat (48 + (tkOf l k).c) :: arrEv l a m (k + 1) else arrEv l a m (k + 1)
/-- n units of time from a on. -/
def syncEv (l : List Tk) : Nat → Nat → List UInt8
  | 0, _ => []
  | n + 1, a => arrEv l a l.length 0 ++ 46 :: syncEv l n (a + 1)

theorem noBad_append (a b : List UInt8) : noBad (a ++ b) = (noBad a && noBad b) := by
  induction a with
  | nil => rfl
  | cons x r ih => simp only [List.cons_append, noBad, ih, Bool.and_assoc]

theorem arr_play (l : List Tk) (hl : ∀ x ∈ l, okTk x) (h8 : l.length ≤ 8) (a : Nat) : ∀ (m k : Nat) (st : St), k + m = l.length → SInv l st (qMid l a k) → st.now = a → noBad st.out = true →
    ∃ st', (∀ r, traceOf l st (arrEv l a m k ++ r) = traceOf l st' r) ∧ (∀ r, evOk l.length (arrEv l a m k ++ r) = evOk l.length r) ∧ SInv l st' (qMid l a l.length) ∧ st'.now = a ∧ noBad st'.out = true := by
  intro m
  induction m with
  | zero =>
    intro k st hk h hn hb
    have : k = l.length := by omega
    subst this
    exact ⟨st, fun _ => rfl, fun _ => rfl, h, hn, hb⟩
  | succ m ih =>
    intro k st hk h hn hb
    have hk' : k < l.length := by omega
    have hx := hl _ (tkOf_mem l k hk')
    unfold okTk at hx
    have ht : 0 < (tkOf l k).t := by omega
    have hqk : qMid l a k k = qPre (tkOf l k) a := by unfold qMid; rw [if_neg (by omega)]
    by_cases hm : a % (tkOf l k).t = 0
    · obtain ⟨q1, q2⟩ := qPre_hit _ _ ht hm
      obtain ⟨e, hs⟩ := sinv_arrive hl h k hk' (by rw [hqk, q1, hn])
      have hq : upd (qMid l a k) k (qMid l a k k + 1) = qMid l a (k + 1) := by
        funext i
        by_cases ei : i = k
        · subst ei
          rw [upd_same, hqk, ← q2]
          unfold qMid
          rw [if_pos (by omega)]
        · rw [upd_other _ _ _ _ ei]
          unfold qMid
          by_cases h1 : i < k
          · rw [if_pos h1, if_pos (by omega)]
          · rw [if_neg h1, if_neg (by omega)]
      rw [hq] at hs
      have n1 : (UInt8.ofNat (97 + k)).toNat = 97 + k := UInt8.toNat_ofNat_of_lt' (by show _ < 256; omega)
      have n2 : (UInt8.ofNat (48 + (tkOf l k).c)).toNat = 48 + (tkOf l k).c := UInt8.toNat_ofNat_of_lt' (by show _ < 256; omega)
      obtain ⟨st', t1, t2, t3, t4, t5⟩ := ih (k + 1) _ (by omega) hs (by rw [e]; exact hn) (by rw [e]; show noBad (st.out ++ [43]) = true; rw [noBad_append, hb]; rfl)
      refine ⟨st', fun r => ?_, fun r => ?_, t3, t4, t5⟩
      · rw [arrEv, if_pos hm, List.cons_append, List.cons_append, traceOf_two _ _ _ _ _ (by rw [n1]; omega), n1, n2, Nat.add_sub_cancel_left, Nat.add_sub_cancel_left]
        exact t1 r
      · rw [arrEv, if_pos hm, List.cons_append, List.cons_append, evOk_two _ _ _ _ (by rw [n1]; omega), n1, n2, t2 r]
        simp
        omega
    · have hq : qMid l a k = qMid l a (k + 1) := by
        funext i
        unfold qMid
        by_cases h1 : i < k
        · rw [if_pos h1, if_pos (by omega)]
        · rw [if_neg h1]
          by_cases ei : i = k
          · subst ei; rw [if_pos (by omega), qPre_miss _ _ ht hm]
          · rw [if_neg (by omega)]
      rw [hq] at h
      obtain ⟨st', t1, t2, t3, t4, t5⟩ := ih (k + 1) st (by omega) h hn hb
      refine ⟨st', fun r => ?_, fun r => ?_, t3, t4, t5⟩
      · rw [arrEv, if_neg hm]; exact t1 r
      · rw [arrEv, if_neg hm]; exact t2 r

theorem tick_outs (n : Nat) (hn : n ≤ 8) (st : St) (hb : noBad st.out = true) : noBad (tick n st).2.out = true ∧ ((tick n st).1 = false → endStar (tick n st).2.out = true) := by
  unfold tick
  rcases pick_cases st n with ⟨e, _⟩ | ⟨k, e, hk, _, _⟩
  · rw [e]
    refine ⟨?_, fun h => by cases h⟩
    show noBad (st.out ++ [45]) = true
    rw [noBad_append, hb]; rfl
  · rw [e]
    simp only
    have hw : noBad (worked st k).out = true := by
      show noBad (st.out ++ [_]) = true
      rw [noBad_append, hb, Bool.true_and]
      have n1 : (UInt8.ofNat (65 + k)).toNat = 65 + k := UInt8.toNat_ofNat_of_lt' (by show _ < 256; omega)
      have n2 : (UInt8.ofNat (97 + k)).toNat = 97 + k := UInt8.toNat_ofNat_of_lt' (by show _ < 256; omega)
      split
      · simp only [noBad, n1]; simp; omega
      · simp only [noBad, n2]; simp; omega
    cases lateFrom (worked st k) n 0 with
    | false => exact ⟨hw, fun h => by cases h⟩
    | true =>
      refine ⟨?_, fun _ => ?_⟩
      · show noBad ((worked st k).out ++ [42]) = true
        rw [noBad_append, hw]; rfl
      · show endStar ((worked st k).out ++ [42]) = true
        unfold endStar
        simp [List.getD_eq_getElem?_getD]

theorem sync_evOk (l : List Tk) (hl : ∀ x ∈ l, okTk x) (h8 : l.length ≤ 8) : ∀ (n a : Nat), evOk l.length (syncEv l n a) = true := by
  intro n
  induction n with
  | zero => intro a; rfl
  | succ n ih =>
    intro a
    rw [syncEv]
    have : ∀ (m k : Nat), k + m = l.length → ∀ r, evOk l.length (arrEv l a m k ++ r) = evOk l.length r := by
      intro m
      induction m with
      | zero => intro k _ r; rfl
      | succ m ihm =>
        intro k hk r
        have hx := hl _ (tkOf_mem l k (by omega))
        unfold okTk at hx
        have n1 : (UInt8.ofNat (97 + k)).toNat = 97 + k := UInt8.toNat_ofNat_of_lt' (by show _ < 256; omega)
        have n2 : (UInt8.ofNat (48 + (tkOf l k).c)).toNat = 48 + (tkOf l k).c := UInt8.toNat_ofNat_of_lt' (by show _ < 256; omega)
        rw [arrEv]
        split
        · rw [List.cons_append, List.cons_append, evOk_two _ _ _ _ (by rw [n1]; omega), n1, n2, ihm (k + 1) (by omega) r]
          simp
          omega
        · exact ihm (k + 1) (by omega) r
    rw [this l.length 0 (by omega), evOk_dot _ _ _ rfl]
    exact ih (a + 1)

/-- Where too much is wanted, the trace ends with a late job. -/
theorem sync_star (l : List Tk) (hl : ∀ x ∈ l, okTk x) (h8 : l.length ≤ 8) : ∀ (n a : Nat) (st : St), SInv l st (qMid l a 0) → st.now = a → noBad st.out = true → (∃ t, a ≤ t ∧ t ≤ a + n ∧ t < wanted l t) →
    noBad (traceOf l st (syncEv l n a)) = true ∧ endStar (traceOf l st (syncEv l n a)) = true := by
  intro n
  induction n with
  | zero =>
    rintro a st h hn hb ⟨t, t1, t2, t3⟩
    have : t = a := by omega
    subst this
    have := sinv_wanted hl h (fun i hi => by
      have hx := hl _ (tkOf_mem l i hi)
      unfold okTk at hx
      rw [hn]; unfold qMid; rw [if_neg (by omega)]; exact qPre_ge _ _ (by omega))
    rw [hn] at this
    omega
  | succ n ih =>
    rintro a st h hn hb ⟨t, t1, t2, t3⟩
    have hw := sinv_wanted hl h (fun i hi => by
      have hx := hl _ (tkOf_mem l i hi)
      unfold okTk at hx
      rw [hn]; unfold qMid; rw [if_neg (by omega)]; exact qPre_ge _ _ (by omega))
    rw [hn] at hw
    have ht : t ≠ a := by intro e; subst e; omega
    obtain ⟨st', p1, p2, p3, p4, p5⟩ := arr_play l hl h8 a l.length 0 st (by omega) h hn hb
    rw [syncEv, p1, traceOf_dot _ _ _ _ rfl]
    obtain ⟨o1, o2⟩ := tick_outs l.length h8 st' p5
    cases hk : (tick l.length st').1 with
    | false =>
      rw [if_neg (by simp)]
      exact ⟨o1, o2 hk⟩
    | true =>
      rw [if_pos rfl]
      obtain ⟨s1, s2⟩ := sinv_tick p3 hk
      refine ih (a + 1) _ ?_ (by rw [s2, p4]) o1 ⟨t, by omega, by omega, t3⟩
      refine sinv_congr s1 (fun i hi => ?_)
      have hx := hl _ (tkOf_mem l i hi)
      unfold okTk at hx
      unfold qMid
      rw [if_pos hi, if_neg (by omega), qPre_next _ _ (by omega)]

/-! ### How many bytes they are -/
theorem arrEv_len (l : List Tk) (a : Nat) : ∀ (m k : Nat), (arrEv l a m k).length = 2 * (sumTo (fun i => if a % (tkOf l i).t = 0 then 1 else 0) (k + m) - sumTo (fun i => if a % (tkOf l i).t = 0 then 1 else 0) k) := by
  intro m
  induction m with
  | zero => intro k; simp [arrEv]
  | succ m ih =>
    intro k
    have hmono : sumTo (fun i => if a % (tkOf l i).t = 0 then 1 else 0) (k + 1) ≤ sumTo (fun i => if a % (tkOf l i).t = 0 then 1 else 0) (k + 1 + m) := by
      have : ∀ j, sumTo (fun i => if a % (tkOf l i).t = 0 then 1 else 0) (k + 1) ≤ sumTo (fun i => if a % (tkOf l i).t = 0 then 1 else 0) (k + 1 + j) := by
        intro j
        induction j with
        | zero => exact Nat.le_refl _
        | succ j ihj => exact Nat.le_trans ihj (Nat.le_add_right _ _)
      exact this m
    rw [arrEv]
    have e := ih (k + 1)
    rw [show k + (m + 1) = k + 1 + m by omega]
    simp only [sumTo] at e hmono
    split
    · rename_i h
      rw [if_pos h] at e hmono
      simp only [List.length_cons, e]
      omega
    · rename_i h
      rw [if_neg h] at e hmono
      rw [e]
      omega

theorem sync_len (l : List Tk) (hl : ∀ x ∈ l, okTk x) : ∀ (n a : Nat), (syncEv l n a).length + 2 * sumTo (fun i => qPre (tkOf l i) a) l.length = n + 2 * sumTo (fun i => qPre (tkOf l i) (a + n)) l.length := by
  intro n
  induction n with
  | zero => intro a; simp [syncEv]
  | succ n ih =>
    intro a
    have e := ih (a + 1)
    rw [syncEv, List.length_append, List.length_cons, arrEv_len, Nat.zero_add]
    rw [show a + 1 + n = a + (n + 1) by omega] at e
    have h1 : sumTo (fun i => qPre (tkOf l i) (a + 1)) l.length = sumTo (fun i => qPre (tkOf l i) a) l.length + sumTo (fun i => if a % (tkOf l i).t = 0 then 1 else 0) l.length := by
      rw [← sumTo_add9]
      refine sumTo_congr _ _ _ (fun i hi => ?_)
      have hx := hl _ (tkOf_mem l i hi)
      unfold okTk at hx
      rw [qPre_next _ _ (by omega)]
      by_cases hm : a % (tkOf l i).t = 0
      · rw [if_pos hm, (qPre_hit _ _ (by omega) hm).2]
      · rw [if_neg hm, qPre_miss _ _ (by omega) hm]; rfl
    simp only [sumTo, Nat.sub_zero]
    omega

/-- As long as not too much is wanted, few jobs come. -/
theorem sync_short (l : List Tk) (hl : ∀ x ∈ l, okTk x) (h8 : l.length ≤ 8) (t : Nat) (h : wanted l t ≤ t) : (syncEv l (t + 1) 0).length ≤ 3 * t + 17 := by
  have e := sync_len l hl (t + 1) 0
  rw [Nat.zero_add] at e
  have h1 : sumTo (fun i => qPre (tkOf l i) (t + 1)) l.length ≤ sumTo (fun i => wantedOne (tkOf l i) t + 1) l.length := by
    refine sumTo_le _ _ _ (fun i hi => ?_)
    have hx := hl _ (tkOf_mem l i hi)
    unfold okTk at hx
    have ht : 0 < (tkOf l i).t := by omega
    show qPre (tkOf l i) (t + 1) ≤ wantedOne (tkOf l i) t + 1
    rw [qPre_next _ _ ht]
    unfold qPost wantedOne
    by_cases hd : (tkOf l i).t ≤ t
    · rw [if_pos (by omega)]
      have h2 : t / (tkOf l i).t = (t - (tkOf l i).t) / (tkOf l i).t + 1 := by
        rw [← Nat.add_div_right _ ht, Nat.sub_add_cancel hd]
      have h3 : (t - (tkOf l i).t) / (tkOf l i).t ≤ (t - (tkOf l i).d) / (tkOf l i).t := Nat.div_le_div_right (by omega)
      have h4 : 1 * ((t - (tkOf l i).d) / (tkOf l i).t + 1) ≤ (tkOf l i).c * ((t - (tkOf l i).d) / (tkOf l i).t + 1) := Nat.mul_le_mul_right _ hx.1
      omega
    · rw [Nat.div_eq_of_lt (by omega)]
      omega
  rw [sumTo_add9, ← wanted_sum, sumTo_ones] at h1
  omega

/-- Such events may be Break's answer, as long as they are few enough. -/
theorem sync_broken (l : List UInt8) (t n : Nat) (h0 : (checkOf l).1 = 0) (hf : feasB (tasksOf l) = false) (hgt : t < wanted (tasksOf l) t) (hn : t ≤ n) (hlen : (syncEv (tasksOf l) n 0).length ≤ 9000) : brokenB l (syncEv (tasksOf l) n 0) 0 = true := by
  obtain ⟨k1, _⟩ := set_okTk l h0
  have h8 := (set_facts l h0).2.1
  have h31 := (set_facts l h0).2.2.2.1
  have hev := sync_evOk (tasksOf l) k1 h8 n 0
  have hs : SInv (tasksOf l) st0 (qMid (tasksOf l) 0 0) := sinv_congr (sinv_start _) (fun i hi => by
    have hx := k1 _ (tkOf_mem _ i hi)
    unfold okTk at hx
    unfold qMid qPre
    rw [if_neg (by omega), Nat.div_eq_of_lt (by omega)])
  obtain ⟨a, b⟩ := sync_star (tasksOf l) k1 h8 n 0 st0 hs rfl rfl ⟨t, by omega, by omega, hgt⟩
  have hfr : freeAns l (syncEv (tasksOf l) n 0) = (traceOf (tasksOf l) st0 (syncEv (tasksOf l) n 0), 0) := by
    unfold freeAns
    rw [if_neg (by omega), if_neg (by simp [h0]), if_neg (by simp [hev])]
  unfold brokenB
  rw [if_neg (by simp [h0]), if_neg (by simp [hf]), hfr]
  simp [a, b]

/-- The first time at which too much is wanted serves. -/
theorem sync_first (l : List UInt8) (t : Nat) (h0 : (checkOf l).1 = 0) (hf : feasB (tasksOf l) = false) (ht : t + 1 ≤ 2520) (hle : wanted (tasksOf l) t ≤ t) (hgt : t + 1 < wanted (tasksOf l) (t + 1)) : brokenB l (syncEv (tasksOf l) (t + 1) 0) 0 = true := by
  have h := sync_short (tasksOf l) (set_okTk l h0).1 (set_facts l h0).2.1 t hle
  exact sync_broken l (t + 1) (t + 1) h0 hf hgt (Nat.le_refl _) (by omega)
end Go.Proofs.Ytdhofmnidlhjpab
