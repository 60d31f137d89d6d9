import Derived.Test.YtdhofmnidlhjpabTInv
import Derived.Test.YtdhofmnidlhjpabTArriveIn
namespace Go.Proofs.Ytdhofmnidlhjpab
open Go.RowKit
variable {w0 w : World} {p g1 g2 g3 : Nat} {ao : Option Addr} {cap0 c1 c2 c3 : Nat} {l : List Tk} {st : St}

set_option maxRecDepth 100000 in
set_option maxHeartbeats 1600000 in
theorem ref_arrive_no (h : PI w0 w p g1 g2 g3 ao cap0 c1 c2 c3 l st) (i n : Nat) (hi : i < l.length) (hl8 : l.length ≤ 8) (hn : n ≤ 9) (hx : ∀ x ∈ l, x.c ≤ 9 ∧ x.d ≤ 9 ∧ 1 ≤ x.t ∧ x.t ≤ 9) (hout : st.out.length ≤ 20000) (hnow : st.now ≤ 10000) (hlast : -1 ≤ st.last i ∧ st.last i ≤ 10000)
    (hno : ¬ (¬ (n < 1 ∨ (tkOf l i).c < n) ∧ ¬ (0 ≤ st.last i ∧ (st.now : Int) - st.last i < (tkOf l i).t))) :
    Calls Try.prog 53 #[.pointer (some ⟨p, 0, none⟩), .int .i64 i, .int .i64 n] w fun e w' => e = .returned (.tuple #[]) ∧ PI w0 w' p g1 g2 g3 ao cap0 c1 c2 c3 l (arrive l st i n) := by
  obtain ⟨b, hao, hbl, q0, q1, q2⟩ := h.holds i hi
  have hbw : b < w.heap.size := Nat.lt_of_lt_of_le hbl h.below.size
  have hxi := hx _ (List.getElem_mem hi)
  have htk := tkOf_get l i hi
  have k0 := h.below.cell (p := ⟨b, i * 3, none⟩) hbl
  have k1 := h.below.cell (p := ⟨b, i * 3 + 1, none⟩) hbl
  have k2 := h.below.cell (p := ⟨b, i * 3 + 2, none⟩) hbl
  rw [q0] at k0
  rw [q1] at k1
  rw [q2] at k2
  subst hao
  rw [htk] at hno
  generalize l[i] = x at *
  obtain ⟨xc, xd, xt⟩ := x
  dsimp only at *
  have hcL := h.cL
  have hf1 := h.f1
  have hf2 := h.f2
  have hf3 := h.f3
  have hcN := h.cN
  have hcl := h.left i hi
  have hcd := h.due i hi
  have hcz := h.last i hi
  have z1 := h.z1 i
  have z2 := h.z2 i
  have z3 := h.z3 i
  have hne := h.ne
  have hpp := h.hp
  have hg1 := h.h1
  have hg2 := h.h2
  have hg3 := h.h3
  have g0 : (0 : Int) ≤ (i : Int) := by omega
  have g1' : (i : Int) < (l.length : Int) := by omega
  obtain ⟨m, hm⟩ : ∃ m, m = l.length := ⟨_, rfl⟩
  rw [← hm] at hcL hf1 hf2 hf3 g1'
  have hm8 : m ≤ 8 := by omega
  by_cases e1 : n < 1 ∨ xc < n
  · have HA : Hid (arrive l st i n = tell st 63) := by unfold Hid arrive; rw [htk, if_pos e1]
    have HT : Hid (Calls Try.prog 69 #[.pointer (some ⟨p, 0, none⟩), .int .u8 63] w fun e w' => e = .returned (.tuple #[]) ∧ PI w0 w' p g1 g2 g3 (some ⟨b, 0, none⟩) cap0 c1 c2 c3 l (tell st 63)) := ref_told h 63 hout
    clear h hm hx htk
    rcases Nat.lt_or_ge n 1 with e2 | e2
    · have e3 : (n : Int) < 1 := by omega
      clear e1
      go_enter Try.func53, Try.ntmps53
      go_wp2_with (go_at_call 69; refine HT.out.mono ?_; rintro e w1 ⟨rfl, hP1⟩)
      go_end0
      exact ⟨rfl, by rw [HA.out]; exact hP1⟩
    · have e3 : (1 : Int) ≤ (n : Int) := by omega
      have e4 : (xc : Int) < (n : Int) := by omega
      clear e1
      go_enter Try.func53, Try.ntmps53
      go_wp2_with (go_at_call 69; refine HT.out.mono ?_; rintro e w1 ⟨rfl, hP1⟩)
      go_end0
      exact ⟨rfl, by rw [HA.out]; exact hP1⟩
  · have e3 : (1 : Int) ≤ (n : Int) := by omega
    have e4 : (n : Int) ≤ (xc : Int) := by omega
    by_cases e2 : 0 ≤ st.last i ∧ (st.now : Int) - st.last i < xt
    · have HA : Hid (arrive l st i n = tell st 33) := by unfold Hid arrive; rw [htk, if_neg e1, if_pos e2]
      have HT : Hid (∀ q, Calls Try.prog 69 #[.pointer (some ⟨p, 0, none⟩), .int .u8 33] (w.drewN q) fun e w' => e = .returned (.tuple #[]) ∧ PI w0 w' p g1 g2 g3 (some ⟨b, 0, none⟩) cap0 c1 c2 c3 l (tell st 33)) := fun q => ref_told (h.drewN q) 33 hout
      clear h hm hx htk e1
      obtain ⟨z, hz⟩ := Int.eq_ofNat_of_zero_le e2.1
      rw [hz] at e2 hcz hlast
      have e5 : (st.now : Int) - (z : Int) < (xt : Int) := e2.2
      have e6 : decide ((st.now : Int) - (z : Int) < (xt : Int)) = true := by simpa using e5
      have e7 : (0 : Int) ≤ (z : Int) := by omega
      clear hz e2
      generalize st.now = nw at *
      go_enter Try.func53, Try.ntmps53
      go_wp2_with fail
      go_quiet (fail)
      go_wp2_with (go_at_call 69; refine (HT.out _).mono ?_; rintro e w1 ⟨rfl, hP1⟩)
      go_end0
      exact ⟨rfl, by rw [HA.out]; exact hP1⟩
    · exact absurd ⟨e1, e2⟩ hno

theorem ref_arrive (h : PI w0 w p g1 g2 g3 ao cap0 c1 c2 c3 l st) (i n : Nat) (hi : i < l.length) (hl8 : l.length ≤ 8) (hn : n ≤ 9) (hx : ∀ x ∈ l, x.c ≤ 9 ∧ x.d ≤ 9 ∧ 1 ≤ x.t ∧ x.t ≤ 9) (hout : st.out.length ≤ 20000) (hnow : st.now ≤ 10000) (hlast : -1 ≤ st.last i ∧ st.last i ≤ 10000) :
    Calls Try.prog 53 #[.pointer (some ⟨p, 0, none⟩), .int .i64 i, .int .i64 n] w fun e w' => e = .returned (.tuple #[]) ∧ PI w0 w' p g1 g2 g3 ao cap0 c1 c2 c3 l (arrive l st i n) := by
  by_cases hno : ¬ (n < 1 ∨ (tkOf l i).c < n) ∧ ¬ (0 ≤ st.last i ∧ (st.now : Int) - st.last i < (tkOf l i).t)
  · exact ref_arrive_in h i n hi hl8 hn hx hout hnow hlast hno.1 hno.2
  · exact ref_arrive_no h i n hi hl8 hn hx hout hnow hlast hno
end Go.Proofs.Ytdhofmnidlhjpab
