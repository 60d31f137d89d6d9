import Derived.Test.YtdhofmnidlhjpabTFree
namespace Go.Proofs.Ytdhofmnidlhjpab
open Go.RowKit

/-- A trace without a refused job. -/
def noBad : List UInt8 → Bool
  | [] => true
  | b :: r => decide (b.toNat ≠ 63) && decide (b.toNat ≠ 33) && noBad r
/-- A trace that ends with a late job. -/
def endStar (l : List UInt8) : Bool := decide (0 < l.length) && ((l.getD (l.length - 1) 0).toNat == 42)

/-- May Break answer these events behind the error e? -/
def brokenB (l s : List UInt8) (e : Int) : Bool :=
  if (checkOf l).1 ≠ 0 then (e == (checkOf l).1) && s.isEmpty else
  if feasB (tasksOf l) = true then (e == 7) && s.isEmpty else
  (e == 0) && decide ((freeAns l s).2 = 0) && noBad (freeAns l s).1 && endStar (freeAns l s).1

theorem noBad_at (l : List UInt8) (h : noBad l = true) : ∀ i, (hi : i < l.length) → l[i].toNat ≠ 63 ∧ l[i].toNat ≠ 33 := by
  induction l with
  | nil => intro i hi; simp at hi
  | cons b r ih =>
    intro i hi
    simp only [noBad, Bool.and_eq_true, decide_eq_true_eq] at h
    cases i with
    | zero => exact ⟨h.1.1, h.1.2⟩
    | succ i => exact ih h.2 i (by simpa using hi)

theorem arrive_len (l : List Tk) (st : St) (i n : Nat) : (arrive l st i n).out.length = st.out.length + 1 := by
  unfold arrive
  split
  · simp [tell]
  · split <;> simp [tell]
theorem tick_len (n : Nat) (st : St) : (tick n st).2.out.length ≤ st.out.length + 2 := by
  unfold tick
  cases pick st n with
  | none => simp [tell]
  | some k =>
    dsimp only
    split
    · simp [tell, worked]
    · simp [worked]
theorem trace_len (l : List Tk) : ∀ (n : Nat) (ev : List UInt8) (st : St), ev.length ≤ n → (traceOf l st ev).length ≤ st.out.length + 2 * ev.length := by
  intro n
  induction n with
  | zero =>
    intro ev st h
    have e : ev = [] := List.length_eq_zero_iff.1 (by omega)
    subst e
    simp [traceOf]
  | succ n ih =>
    intro ev st h
    match ev, h with
    | [], _ => simp [traceOf]
    | [b], _ =>
      by_cases hb : b.toNat = 46
      · rw [traceOf, if_pos hb]; have := tick_len l.length st; simp only [List.length_cons, List.length_nil]; omega
      · rw [traceOf, if_neg hb]; omega
    | b :: d :: r, h =>
      simp only [List.length_cons] at h ⊢
      by_cases hb : b.toNat = 46
      · rw [traceOf, if_pos hb]
        have h1 := tick_len l.length st
        split
        · have h2 := ih (d :: r) (tick l.length st).2 (by simp only [List.length_cons]; omega)
          simp only [List.length_cons] at h2
          omega
        · omega
      · rw [traceOf, if_neg hb]
        have h1 := arrive_len l st (b.toNat - 97) (d.toNat - 48)
        have h2 := ih r (arrive l st (b.toNat - 97) (d.toNat - 48)) (by omega)
        omega
theorem free_len (l ev : List UInt8) : (freeAns l ev).1.length ≤ 18000 := by
  by_cases h : (freeAns l ev).2 = 0
  · obtain ⟨_, h2, _, _, h5⟩ := freeAns_ok l ev h
    rw [h5]
    have := trace_len (tasksOf l) ev.length ev st0 (Nat.le_refl _)
    simp only [st0, List.length_nil] at this ⊢
    omega
  · rw [(freeAns_err l ev).2.2 h]; simp

theorem empty_of (s : ByteArray) (h : s.data.toList.isEmpty = true) : s = ⟨#[]⟩ := by
  have h1 : s.data.toList = [] := by simpa using h
  have h2 : s.data = #[] := Array.toList_eq_nil_iff.1 h1
  cases s
  simp_all

set_option maxRecDepth 100000 in
set_option maxHeartbeats 1600000 in
theorem ref_Broken (s ev : ByteArray) (e : Int) (w : World) (hs : s.size ≤ maxLen) (hev : ev.size ≤ maxLen) (h : brokenB s.data.toList ev.data.toList e = true) :
    Calls Try.prog 9 #[.string s, .string ev, .int .i64 e] w fun r w' => r = .returned (.bool true) ∧ Below w.heap.size w w' := by
  unfold brokenB at h
  by_cases h1 : (checkOf s.data.toList).1 = 0
  · have hn8 := (set_facts _ h1).2.1
    have hx := set_bounds _ h1
    have HC := fun w => ref_check_ok s w hs h1
    have HK := fun w => ref_tasks_ok s w h1
    have HF := fun w => ref_Free s ev w hs hev
    rw [if_neg (by simp [h1])] at h
    cases hh : feasB (tasksOf s.data.toList)
    · rw [if_neg (by simp [hh])] at h
      simp only [Bool.and_eq_true, beq_iff_eq, decide_eq_true_eq] at h
      obtain ⟨⟨⟨rfl, h2⟩, h3⟩, h4⟩ := h
      rw [h2] at HF
      have hfl := free_len s.data.toList ev.data.toList
      generalize (freeAns s.data.toList ev.data.toList).1 = tr at *
      generalize tasksOf s.data.toList = L at *
      have HHv : Hid (∀ (ao : Option Addr) (n cap : Nat) (w : World), n = L.length → HoldsA w ao L → Calls Try.prog 17 #[.slice ao n cap] w fun e w' => e = .returned (.bool false) ∧ ∃ q, w' = w.drewN q) := by
        intro ao n cap w hn hH; have := ref_feasible ao n cap L w hn hn8 hx hH; rw [hh] at this; exact this
      unfold endStar at h4
      simp only [Bool.and_eq_true, decide_eq_true_eq, beq_iff_eq] at h4
      have hat := noBad_at tr h3
      obtain ⟨S, hS⟩ : ∃ S : ByteArray, S = ⟨tr.toArray⟩ := ⟨_, rfl⟩
      rw [← hS] at HF
      have hsz : S.size = tr.length := by rw [hS]; show tr.toArray.size = _; simp
      have hem : S.toList.isEmpty = false := by rw [ByteArray.toList_eq, hS]; simp; intro e; rw [e] at h4; simp at h4
      have HG : Hid (∀ i, (hi : i < S.size) → S[i].toNat ≠ 63 ∧ S[i].toNat ≠ 33) := by
        intro i hi
        subst hS
        exact hat i (by rw [← hsz]; exact hi)
      have HLs : Hid (∀ (hi : S.size - 1 < S.size), S[S.size - 1].toNat = 42) := by
        intro hi
        subst hS
        have := h4.2
        rw [List.getD_eq_getElem?_getD, List.getElem?_eq_getElem (by omega), Option.getD_some] at this
        simp only [hsz]
        exact this
      have hpos : 0 < S.size := by omega
      have hb2 : S.size ≤ 18000 := by omega
      clear h1 hh h2 h3 h4 hat hS hsz hfl
      go_enter Try.func9, Try.ntmps9
      go_wp2_with fail
      refine (HC _).mono ?_
      rintro e w1 ⟨rfl, hb1⟩
      go_wp2_with fail
      refine (HK _).mono ?_
      rintro e w2 ⟨ao, cap, rfl, hH, hb2'⟩
      obtain ⟨n, hn⟩ : ∃ n, n = L.length := ⟨_, rfl⟩
      rw [← hn]
      have HN : Hid (n = L.length) := hn
      clear hn
      go_wp2_with fail
      refine (HHv.out ao n cap _ HN.out hH).mono ?_
      rintro e w3 ⟨rfl, q, rfl⟩
      go_wp2_with fail
      refine (HF _).mono ?_
      rintro e w4 ⟨rfl, hb4⟩
      go_wp2_with fail
      go_loop [13] (fun i => ∃ k : Nat, k ≤ S.size ∧ i = .int .i64 k) (fun i => S.size - (intOf i).toNat)
      case atStart => exact ⟨0, by omega, rfl⟩
      case round =>
        obtain ⟨k, hk, rfl⟩ := hrel
        by_cases hlt : k < S.size
        · obtain ⟨n1, n2⟩ := HG.out k hlt
          have d1 : ((S[k].toNat : Int) == 63) = false := by simp; omega
          have d2 : ((S[k].toNat : Int) == 33) = false := by simp; omega
          clear n1 n2
          go_wp2
          go_round
          case rel => exact ⟨k + 1, by omega, by go_num⟩
          case measure => simp [intOf]; omega
        · have hls := HLs.out (by omega)
          have d3 : ((S[S.size - 1].toNat : Int) == 42) = true := by simp; omega
          clear hls
          have i1 : (0 : Int) ≤ (S.size : Int) - 1 := by omega
          have t1 : ((S.size : Int) - 1).toNat = S.size - 1 := by omega
          go_wp2
          go_ret
          exact ⟨rfl, (belN (hb1.trans (hb2'.mono hb1.size)) q).trans (hb4.mono (Nat.le_trans hb1.size hb2'.size))⟩
    · rw [if_pos hh] at h
      simp only [Bool.and_eq_true, beq_iff_eq] at h
      obtain ⟨rfl, he⟩ := h
      obtain rfl := empty_of ev he
      generalize tasksOf s.data.toList = L at *
      have HHv : Hid (∀ (ao : Option Addr) (n cap : Nat) (w : World), n = L.length → HoldsA w ao L → Calls Try.prog 17 #[.slice ao n cap] w fun e w' => e = .returned (.bool true) ∧ ∃ q, w' = w.drewN q) := by
        intro ao n cap w hn hH; have := ref_feasible ao n cap L w hn hn8 hx hH; rw [hh] at this; exact this
      clear h1 hh HF
      go_enter Try.func9, Try.ntmps9
      go_wp2_with fail
      refine (HC _).mono ?_
      rintro e w1 ⟨rfl, hb1⟩
      go_wp2_with fail
      refine (HK _).mono ?_
      rintro e w2 ⟨ao, cap, rfl, hH, hb2⟩
      obtain ⟨n, hn⟩ : ∃ n, n = L.length := ⟨_, rfl⟩
      rw [← hn]
      have HN : Hid (n = L.length) := hn
      clear hn
      go_wp2_with fail
      refine (HHv.out ao n cap _ HN.out hH).mono ?_
      rintro e w3 ⟨rfl, q, rfl⟩
      go_wp2
      go_ret
      exact ⟨rfl, belN (hb1.trans (hb2.mono hb1.size)) _⟩
  · rw [if_pos h1] at h
    simp only [Bool.and_eq_true, beq_iff_eq] at h
    obtain ⟨rfl, he⟩ := h
    obtain rfl := empty_of ev he
    have HC := fun w => ref_check s w hs
    have hck := checkOf_bound s.data.toList
    generalize (checkOf s.data.toList).2 = c2 at *
    generalize (checkOf s.data.toList).1 = c1 at *
    have hne : (c1 != 0) = true := by simpa using h1
    go_enter Try.func9, Try.ntmps9
    go_wp2_with fail
    refine (HC _).mono ?_
    rintro e w1 ⟨rfl, hb1⟩
    go_wp2
    go_ret
    exact ⟨rfl, hb1⟩
end Go.Proofs.Ytdhofmnidlhjpab
