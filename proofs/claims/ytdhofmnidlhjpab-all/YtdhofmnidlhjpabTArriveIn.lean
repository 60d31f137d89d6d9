import Derived.Test.YtdhofmnidlhjpabTInv
import Derived.Deep.CutRange
namespace Go.Proofs.Ytdhofmnidlhjpab
open Go.RowKit
variable {w0 w : World} {p g1 g2 g3 : Nat} {ao : Option Addr} {cap0 c1 c2 c3 : Nat} {l : List Tk} {st : St}

/-- The facts on the memory that a walk over the plan asks, at task i. -/
theorem PI.facts (h : PI w0 w p g1 g2 g3 ao cap0 c1 c2 c3 l st) (i : Nat) (hi : i < l.length) : ∃ b, ao = some ⟨b, 0, none⟩ ∧ b ≠ p ∧ b ≠ g1 ∧ b ≠ g2 ∧ b ≠ g3 ∧
    w.cell? ⟨b, i * 3, none⟩ = some (.int .i64 (tkOf l i).c) ∧ w.cell? ⟨b, i * 3 + 1, none⟩ = some (.int .i64 (tkOf l i).d) ∧ w.cell? ⟨b, i * 3 + 2, none⟩ = some (.int .i64 (tkOf l i).t) := by
  obtain ⟨b, hao, hbl, q0, q1, q2⟩ := h.holds i hi
  have a := h.hp; have b1 := h.h1; have b2 := h.h2; have b3 := h.h3
  rw [tkOf_get l i hi]
  refine ⟨b, hao, by omega, by omega, by omega, by omega, ?_, ?_, ?_⟩
  · rw [h.below.cell (p := ⟨b, i * 3, none⟩) hbl]; exact q0
  · rw [h.below.cell (p := ⟨b, i * 3 + 1, none⟩) hbl]; exact q1
  · rw [h.below.cell (p := ⟨b, i * 3 + 2, none⟩) hbl]; exact q2

set_option maxRecDepth 100000 in
set_option maxHeartbeats 1600000 in
theorem ref_arrive_in (h : PI w0 w p g1 g2 g3 ao cap0 c1 c2 c3 l st) (i n : Nat) (hi : i < l.length) (hl8 : l.length ≤ 8) (hn : n ≤ 9) (hx : ∀ x ∈ l, x.c ≤ 9 ∧ x.d ≤ 9 ∧ 1 ≤ x.t ∧ x.t ≤ 9) (hout : st.out.length ≤ 20000) (hnow : st.now ≤ 10000) (hlast : -1 ≤ st.last i ∧ st.last i ≤ 10000)
    (e1 : ¬ (n < 1 ∨ (tkOf l i).c < n)) (e2 : ¬ (0 ≤ st.last i ∧ (st.now : Int) - st.last i < (tkOf l i).t)) :
    Calls Try.prog 53 #[.pointer (some ⟨p, 0, none⟩), .int .i64 i, .int .i64 n] w fun e w' => e = .returned (.tuple #[]) ∧ PI w0 w' p g1 g2 g3 ao cap0 c1 c2 c3 l (arrive l st i n) := by
  have HA : Hid (arrive l st i n = tell { st with left := upd st.left i n, due := upd st.due i (st.now + (tkOf l i).d), last := upd st.last i st.now } 43) := by unfold Hid arrive; rw [if_neg e1, if_neg e2]
  have hxi := hx _ (tkOf_mem l i hi)
  have H1 : Hid (∀ q, PI w0 ((w.drewN q).setCell ⟨g1, i, none⟩ (.int .i64 n)) p g1 g2 g3 ao cap0 c1 c2 c3 l { st with left := upd st.left i n }) := fun q => (h.drewN q).setLeft i hi n
  have HP : Hid (PI w0 w p g1 g2 g3 ao cap0 c1 c2 c3 l st) := h
  have HX : Hid (∀ x ∈ l, x.c ≤ 9 ∧ x.d ≤ 9 ∧ 1 ≤ x.t ∧ x.t ≤ 9) := hx
  obtain ⟨b, rfl, nb, nb1, nb2, nb3, k0, k1, k2⟩ := h.facts i hi
  have hcL := h.cL
  have hf1 := h.f1
  have hf3 := h.f3
  have hcN := h.cN
  have hcl := h.left i hi
  have hcz := h.last i hi
  have z1 := h.z1 i
  have g0 : (0 : Int) ≤ (i : Int) := by omega
  have g1' : (i : Int) < (l.length : Int) := by omega
  obtain ⟨m, hm⟩ : ∃ m, m = l.length := ⟨_, rfl⟩
  rw [← hm] at hcL hf1 hf3 g1'
  have hm8 : m ≤ 8 := by omega
  have HM : Hid (m = l.length) := hm
  have e3 : (1 : Int) ≤ (n : Int) := by omega
  have e4 : (n : Int) ≤ ((tkOf l i).c : Int) := by omega
  obtain ⟨lz, hlz⟩ : ∃ lz, lz = st.last i := ⟨_, rfl⟩
  rw [← hlz] at hcz hlast e2
  obtain ⟨nw, hnw⟩ : ∃ nw, nw = st.now := ⟨_, rfl⟩
  rw [← hnw] at hcN hnow e2
  obtain ⟨xc, hxc⟩ : ∃ xc, xc = (tkOf l i).c := ⟨_, rfl⟩
  obtain ⟨xt, hxt⟩ : ∃ xt, xt = (tkOf l i).t := ⟨_, rfl⟩
  rw [← hxc] at k0 e4 hxi
  rw [← hxt] at k2 hxi e2
  have HNW : Hid (nw = st.now) := hnw
  clear h hm hx e1 hxc hxt hlz hnw
  by_cases e5 : lz < 0
  · have e6 : decide ((0 : Int) ≤ lz) = false := by simp; omega
    clear e2
    go_enter Try.func53, Try.ntmps53
    go_wp2_with fail
    go_quiet (fail)
    go_upto_region 1 with fail
    have hP1 := H1.out nq
    clear k0 k1 k2 hcL hf1 hf3 hcN hcl hcz z1 H1 HP
    generalize (w.drewN nq).setCell ⟨g1, i, none⟩ (.int .i64 n) = W1 at *
    obtain ⟨b', hb', nb, nb1, nb2, nb3, k0, k1, k2⟩ := hP1.facts i hi
    obtain rfl : b = b' := by simpa using hb'
    clear hb' k0 k2
    have hcL := hP1.cL
    have hf2 := hP1.f2
    have hcN := hP1.cN
    have hcd := hP1.due i hi
    have z2 := hP1.z2 i
    rw [← HM.out] at hcL hf2
    obtain ⟨xd, hxd⟩ : ∃ xd, xd = (tkOf l i).d := ⟨_, rfl⟩
    rw [← hxd] at k1 hxi
    have hcN' : W1.cell? ⟨p, 4, none⟩ = some (.int .i64 nw) := by rw [hcN, HNW.out]
    have hP2 : Hid (PI w0 (W1.setCell ⟨g2, i, none⟩ (.int .i64 ((nw : Int) + (xd : Int)))) p g1 g2 g3 (some ⟨b, 0, none⟩) cap0 c1 c2 c3 l { st with left := upd st.left i n, due := upd st.due i (nw + xd) }) := by
      have := hP1.setDue i hi (nw + xd)
      rw [Int.natCast_add] at this
      exact this
    have HXD : Hid (xd = (tkOf l i).d) := hxd
    clear hP1 hcN hxd
    go_big_region
    go_upto_region 2 with fail
    have hQ := hP2.out.drew
    clear hcL hf2 hcN' hcd z2 hP2 k1
    generalize (W1.setCell ⟨g2, i, none⟩ (.int .i64 ((nw : Int) + (xd : Int)))).drew = W2 at *
    have hf3 := hQ.f3
    have hcN := hQ.cN
    have hcz := hQ.last i hi
    have z3 := hQ.z3 i
    rw [← HM.out] at hf3
    have hcN' : W2.cell? ⟨p, 4, none⟩ = some (.int .i64 nw) := by rw [hcN, HNW.out]
    have hQ2 : Hid (PI w0 (W2.setCell ⟨g3, i, none⟩ (.int .i64 (nw : Int))).drew p g1 g2 g3 (some ⟨b, 0, none⟩) cap0 c1 c2 c3 l { st with left := upd st.left i n, due := upd st.due i (nw + xd), last := upd st.last i (nw : Int) }) := (hQ.setLast i hi (nw : Int)).drew
    clear hQ hcN
    go_big_region
    go_wp2_with fail
    refine (ref_told hQ2.out 43 hout).mono ?_
    rintro e w5 ⟨rfl, hP5⟩
    go_wp2
    go_end0
    refine ⟨rfl, ?_⟩
    rw [HNW.out, HXD.out] at hP5
    rw [HA.out]
    exact hP5
  · obtain ⟨z, rfl⟩ := Int.eq_ofNat_of_zero_le (show 0 ≤ lz by omega)
    have e6 : decide ((nw : Int) - (z : Int) < (xt : Int)) = false := by simp; omega
    have e7 : (0 : Int) ≤ (z : Int) := by omega
    clear e2 e5
    go_enter Try.func53, Try.ntmps53
    go_wp2_with fail
    go_quiet (fail)
    go_upto_region 1 with fail
    have hP1 := H1.out nq
    clear k0 k1 k2 hcL hf1 hf3 hcN hcl hcz z1 H1 HP
    generalize (w.drewN nq).setCell ⟨g1, i, none⟩ (.int .i64 n) = W1 at *
    obtain ⟨b', hb', nb, nb1, nb2, nb3, k0, k1, k2⟩ := hP1.facts i hi
    obtain rfl : b = b' := by simpa using hb'
    clear hb' k0 k2
    have hcL := hP1.cL
    have hf2 := hP1.f2
    have hcN := hP1.cN
    have hcd := hP1.due i hi
    have z2 := hP1.z2 i
    rw [← HM.out] at hcL hf2
    obtain ⟨xd, hxd⟩ : ∃ xd, xd = (tkOf l i).d := ⟨_, rfl⟩
    rw [← hxd] at k1 hxi
    have hcN' : W1.cell? ⟨p, 4, none⟩ = some (.int .i64 nw) := by rw [hcN, HNW.out]
    have hP2 : Hid (PI w0 (W1.setCell ⟨g2, i, none⟩ (.int .i64 ((nw : Int) + (xd : Int)))) p g1 g2 g3 (some ⟨b, 0, none⟩) cap0 c1 c2 c3 l { st with left := upd st.left i n, due := upd st.due i (nw + xd) }) := by
      have := hP1.setDue i hi (nw + xd)
      rw [Int.natCast_add] at this
      exact this
    have HXD : Hid (xd = (tkOf l i).d) := hxd
    clear hP1 hcN hxd
    go_big_region
    go_upto_region 2 with fail
    have hQ := hP2.out.drew
    clear hcL hf2 hcN' hcd z2 hP2 k1
    generalize (W1.setCell ⟨g2, i, none⟩ (.int .i64 ((nw : Int) + (xd : Int)))).drew = W2 at *
    have hf3 := hQ.f3
    have hcN := hQ.cN
    have hcz := hQ.last i hi
    have z3 := hQ.z3 i
    rw [← HM.out] at hf3
    have hcN' : W2.cell? ⟨p, 4, none⟩ = some (.int .i64 nw) := by rw [hcN, HNW.out]
    have hQ2 : Hid (PI w0 (W2.setCell ⟨g3, i, none⟩ (.int .i64 (nw : Int))).drew p g1 g2 g3 (some ⟨b, 0, none⟩) cap0 c1 c2 c3 l { st with left := upd st.left i n, due := upd st.due i (nw + xd), last := upd st.last i (nw : Int) }) := (hQ.setLast i hi (nw : Int)).drew
    clear hQ hcN
    go_big_region
    go_wp2_with fail
    refine (ref_told hQ2.out 43 hout).mono ?_
    rintro e w5 ⟨rfl, hP5⟩
    go_wp2
    go_end0
    refine ⟨rfl, ?_⟩
    rw [HNW.out, HXD.out] at hP5
    rw [HA.out]
    exact hP5
end Go.Proofs.Ytdhofmnidlhjpab
