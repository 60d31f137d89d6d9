/-
  Plain mathematics: the numbers of a state that is played stay small. No program, no walk.
-/
import Derived.Test.YtbeclgilglepeaaMath5
namespace Go.Proofs.Ytbeclgilglepeaa

/-- Behind m bytes of events a state's numbers are no greater than so. -/
structure Bnd (l : List Tk) (st : St) (m : Nat) : Prop where
  now : st.now ≤ m
  out : st.out.length ≤ 2 * m
  left : ∀ i, i < l.length → st.left i ≤ 9
  due : ∀ i, i < l.length → st.due i ≤ m + 9
  last : ∀ i, i < l.length → -1 ≤ st.last i ∧ st.last i ≤ m

theorem bnd_start (l : List Tk) : Bnd l st0 0 := ⟨Nat.le_refl _, Nat.zero_le _, fun _ _ => by simp [st0], fun _ _ => by simp [st0], fun _ _ => by simp [st0]⟩

theorem bnd_mono {l : List Tk} {st : St} {m m' : Nat} (h : Bnd l st m) (hm : m ≤ m') : Bnd l st m' :=
  ⟨Nat.le_trans h.now hm, by have := h.out; omega, h.left, fun i hi => by have := h.due i hi; omega, fun i hi => by have := h.last i hi; omega⟩

theorem bnd_tell {l : List Tk} {st : St} {m : Nat} (h : Bnd l st m) (c : UInt8) : Bnd l (tell st c) (m + 1) := by
  have h' := bnd_mono h (show m ≤ m + 1 by omega)
  refine ⟨h'.now, ?_, h'.left, h'.due, h'.last⟩
  have := h.out
  simp only [tell, List.length_append, List.length_cons, List.length_nil]
  omega

theorem bnd_arrive {l : List Tk} {st : St} {m : Nat} (hx : ∀ x ∈ l, x.c ≤ 9 ∧ x.d ≤ 9 ∧ 1 ≤ x.t ∧ x.t ≤ 9) (h : Bnd l st m) (i n : Nat) (hi : i < l.length) : Bnd l (arrive l st i n) (m + 1) := by
  unfold arrive
  by_cases h1 : n < 1 ∨ (tkOf l i).c < n
  · rw [if_pos h1]; exact bnd_tell h _
  · rw [if_neg h1]
    by_cases h2 : 0 ≤ st.last i ∧ (st.now : Int) - st.last i < (tkOf l i).t
    · rw [if_pos h2]; exact bnd_tell h _
    · rw [if_neg h2]
      have hxi := hx _ (tkOf_mem l i hi)
      have hnow := h.now
      refine bnd_tell ?_ _
      refine ⟨h.now, h.out, fun j hj => ?_, fun j hj => ?_, fun j hj => ?_⟩
      · by_cases e : j = i
        · subst e; simp only [upd_same]; omega
        · simp only [upd_other _ _ _ _ e]; exact h.left j hj
      · by_cases e : j = i
        · subst e; simp only [upd_same]; omega
        · simp only [upd_other _ _ _ _ e]; exact h.due j hj
      · by_cases e : j = i
        · subst e; simp only [upd_same]; omega
        · simp only [upd_other _ _ _ _ e]; exact h.last j hj

theorem bnd_tick {l : List Tk} {st : St} {m : Nat} (h : Bnd l st m) (n : Nat) : Bnd l (tick n st).2 (m + 1) := by
  have h' := bnd_mono h (show m ≤ m + 1 by omega)
  have hnow := h.now
  have hout := h.out
  unfold tick
  cases pick st n with
  | none =>
    dsimp only
    refine ⟨by simp only [tell]; omega, by simp only [tell, List.length_append, List.length_cons, List.length_nil]; omega, h'.left, h'.due, h'.last⟩
  | some k =>
    have hw : ∀ i, i < l.length → (worked st k).left i ≤ 9 := by
      intro i hi
      simp only [worked]
      by_cases e : i = k
      · subst e; rw [upd_same]; have := h.left i hi; omega
      · rw [upd_other _ _ _ _ e]; exact h.left i hi
    dsimp only
    by_cases hl : lateFrom (worked st k) n 0 = true
    · rw [if_pos hl]
      refine ⟨by simp only [tell, worked]; omega, by simp only [tell, worked, List.length_append, List.length_cons, List.length_nil]; omega, hw, h'.due, h'.last⟩
    · rw [if_neg hl]
      refine ⟨by simp only [worked]; omega, by simp only [worked, List.length_append, List.length_cons, List.length_nil]; omega, hw, h'.due, h'.last⟩

end Go.Proofs.Ytbeclgilglepeaa
