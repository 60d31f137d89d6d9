import Derived.Test.YtbeclgilglepeaaRTest
import Derived.Deep.RegionHeld3
namespace Go.Proofs.Ytbeclgilglepeaa
open Go.RowKit

theorem nat_of_mul1 (k T : Nat) (h : 1 ≤ k) : ((k : Int) - 1) * T = (((k - 1) * T : Nat) : Int) := by
  rw [Int.natCast_mul, Int.ofNat_sub h]; rfl

set_option maxRecDepth 100000 in
set_option maxHeartbeats 1600000 in
theorem ref_evenly (c d T k t : Nat) (w : World) (hc : c ≤ 9) (hd9 : d ≤ 9) (hT : 1 ≤ T) (hT9 : T ≤ 9) (hk1 : 1 ≤ k) (hk : k ≤ 20) (ht : t ≤ 10000) :
    Calls Try.prog 71 #[.agg #[.int .i64 c, .int .i64 d, .int .i64 T], .int .i64 k, .int .i64 t] w fun e w' => e = .returned (.int .i64 (evenOf ⟨c, d, T⟩ k t)) ∧ Below w.heap.size w w' := by
  obtain ⟨M, hM⟩ : ∃ M, M = (k - 1) * T := ⟨_, rfl⟩
  have hm : ((k : Int) - 1) * T = (M : Int) := by rw [hM]; exact nat_of_mul1 k T hk1
  have hMb : M ≤ 171 := by rw [hM]; exact Nat.mul_le_mul (show k - 1 ≤ 19 by omega) hT9
  have HM : Hid (M = (k - 1) * T) := hM
  clear hM
  by_cases h1 : t < d
  · have HE : Hid (evenOf ⟨c, d, T⟩ k t = 0) := by unfold Hid evenOf; rw [if_pos h1]
    go_enter Try.func71, Try.ntmps71
    go_wp2
    go_ret
    exact ⟨ret_int (by rw [HE.out]; rfl), (Below.refl _ _).alloc (Nat.le_refl _) _⟩
  · by_cases h2 : t ≤ d + M
    · have HE : Hid (evenOf ⟨c, d, T⟩ k t = 2520 * c * ((t - d) / T + 1)) := by unfold Hid evenOf; rw [if_neg h1, if_pos (by dsimp only; rw [← HM.out]; exact h2)]
      obtain ⟨Q, hQ⟩ : ∃ Q, Q = (t - d) / T := ⟨_, rfl⟩
      have hq : ((t : Int) - d) / T = (Q : Int) := by rw [hQ, Int.natCast_ediv, Int.ofNat_sub (by omega)]
      have hQb : Q ≤ 10000 := by rw [hQ]; exact Nat.le_trans (Nat.div_le_self _ _) (by omega)
      rw [← hQ] at HE
      obtain ⟨R, hR⟩ : ∃ R, R = 2520 * c * (Q + 1) := ⟨_, rfl⟩
      have hr : 2520 * (c : Int) * ((Q : Int) + 1) = (R : Int) := by rw [hR]; simp
      have hRb : R ≤ 226822680 := by rw [hR]; exact Nat.mul_le_mul (show 2520 * c ≤ 22680 by omega) (show Q + 1 ≤ 10001 by omega)
      rw [← hR] at HE
      clear hQ hR
      go_enter Try.func71, Try.ntmps71
      go_wp2_with fail
      go_quiet (fail)
      go_wp2
      go_ret
      exact ⟨ret_int (by rw [HE.out]), belN ((Below.refl _ _).alloc (Nat.le_refl _) _) _⟩
    · have HE : Hid (evenOf ⟨c, d, T⟩ k t = 2520 * k * c + c * (t - (d + M)) * (2520 / T)) := by unfold Hid evenOf; rw [if_neg h1, if_neg (by dsimp only; rw [← HM.out]; exact h2)]; dsimp only; rw [← HM.out]
      obtain ⟨Q, hQ⟩ : ∃ Q, Q = 2520 / T := ⟨_, rfl⟩
      have hq : (2520 : Int) / T = (Q : Int) := by rw [hQ, Int.natCast_ediv]; rfl
      have hQb : Q ≤ 2520 := by rw [hQ]; exact Nat.div_le_self _ _
      rw [← hQ] at HE
      obtain ⟨A, hA⟩ : ∃ A, A = 2520 * k * c := ⟨_, rfl⟩
      have ha : 2520 * (k : Int) * (c : Int) = (A : Int) := by rw [hA]; simp
      have hAb : A ≤ 453600 := by rw [hA]; exact Nat.mul_le_mul (show 2520 * k ≤ 50400 by omega) hc
      rw [← hA] at HE
      obtain ⟨B, hB⟩ : ∃ B, B = c * (t - (d + M)) := ⟨_, rfl⟩
      have hb : (c : Int) * ((t : Int) - ((d : Int) + (M : Int))) = (B : Int) := by rw [hB, Int.natCast_mul, Int.ofNat_sub (by omega)]; simp
      have hBb : B ≤ 90000 := by rw [hB]; exact Nat.mul_le_mul hc (show t - (d + M) ≤ 10000 by omega)
      rw [← hB] at HE
      obtain ⟨R, hR⟩ : ∃ R, R = B * Q := ⟨_, rfl⟩
      have hr : (B : Int) * (Q : Int) = (R : Int) := by rw [hR]; simp
      have hRb : R ≤ 226800000 := by rw [hR]; exact Nat.mul_le_mul hBb hQb
      rw [← hR] at HE
      clear hQ hR hA hB
      have h1' : d ≤ t := by omega
      have h2' : (d : Int) + (M : Int) < (t : Int) := by omega
      go_enter Try.func71, Try.ntmps71
      go_wp2_with fail
      go_quiet (fail)
      go_wp2
      go_ret
      exact ⟨ret_int (by rw [HE.out]; simp), belN ((Below.refl _ _).alloc (Nat.le_refl _) _) _⟩

theorem evenOf_le (x : Tk) (k t : Nat) (hc : x.c ≤ 9) (hk : k ≤ 20) (ht : t ≤ 10000) : evenOf x k t ≤ 250000000 := by
  unfold evenOf
  by_cases h1 : t < x.d
  · rw [if_pos h1]; omega
  · rw [if_neg h1]
    by_cases h2 : t ≤ x.d + (k - 1) * x.t
    · rw [if_pos h2]
      have hQb : (t - x.d) / x.t ≤ 10000 := Nat.le_trans (Nat.div_le_self _ _) (by omega)
      have : 2520 * x.c * ((t - x.d) / x.t + 1) ≤ 22680 * 10001 := Nat.mul_le_mul (by omega) (by omega)
      omega
    · rw [if_neg h2]
      have h3 : 2520 * k * x.c ≤ 50400 * 9 := Nat.mul_le_mul (by omega) hc
      have h4 : x.c * (t - (x.d + (k - 1) * x.t)) ≤ 9 * 10000 := Nat.mul_le_mul hc (by omega)
      have h5 : x.c * (t - (x.d + (k - 1) * x.t)) * (2520 / x.t) ≤ (9 * 10000) * 2520 := Nat.mul_le_mul h4 (Nat.div_le_self _ _)
      omega

theorem evens_le (l : List Tk) (k t : Nat) (hc : ∀ x ∈ l, x.c ≤ 9) (hk : k ≤ 20) (ht : t ≤ 10000) : evens l k t ≤ l.length * 250000000 := by
  induction l with
  | nil => simp [evens]
  | cons x r ih =>
    have h1 := evenOf_le x k t (hc x (by simp)) hk ht
    have h2 := ih (fun y hy => hc y (by simp [hy]))
    simp only [evens, List.length_cons, Nat.add_mul]
    omega

set_option maxRecDepth 100000 in
set_option maxHeartbeats 1600000 in
theorem ref_fits (ao : Option Addr) (n cap : Nat) (l : List Tk) (K t : Nat) (w : World) (hn : n = l.length) (hl : l.length ≤ 8) (hx : ∀ x ∈ l, x.c ≤ 9 ∧ x.d ≤ 9 ∧ 1 ≤ x.t ∧ x.t ≤ 9) (hK1 : 1 ≤ K) (hK : K ≤ 20) (ht : t ≤ 10000) (hH : HoldsA w ao l) :
    Calls Try.prog 62 #[.slice ao n cap, .int .i64 K, .int .i64 t] w fun e w' => e = .returned (.bool (fitsB l K t)) ∧ Below w.heap.size w w' := by
  have HN : Hid (n = l.length) := hn
  have hn8 : n ≤ 8 := by omega
  clear hn hl
  go_enter Try.func62, Try.ntmps62
  go_wp2
  go_loopw [7, 8, 9] (fun s i _ wr => ∃ k : Nat, k ≤ n ∧ i = .int .i64 k ∧ s = .int .i64 (evens (l.take k) K t : Nat) ∧ Below w.heap.size w wr) (fun _ i _ _ => n - (intOf i).toNat)
  case atStart => exact ⟨0, Nat.zero_le _, rfl, by simp [evens], Below.refl _ _⟩
  case round =>
    obtain ⟨k, hk, rfl, rfl, hbel⟩ := hrel
    have hb2 := evens_le (l.take k) K t (fun x hx' => (hx x (List.mem_of_mem_take hx')).1) hK ht
    have hb3 : (l.take k).length * 250000000 ≤ 8 * 250000000 := Nat.mul_le_mul (by rw [List.length_take]; omega) (by omega)
    by_cases hlt : k < n
    · have hkl : k < l.length := by rw [← HN.out]; exact hlt
      have hH2 := HoldsA.later hH hbel
      obtain ⟨b, rfl, hb, h0, h1, h2⟩ := hH2 k hkl
      have hsn := evens_snoc l k hkl K t
      obtain ⟨fc, fd, ft1, ft2⟩ := hx _ (List.getElem_mem hkl)
      have hwo := evenOf_le l[k] K t fc hK ht
      generalize l[k] = x at *
      obtain ⟨c, d, T⟩ := x
      have hct := fun w => ref_evenly c d T K t w fc fd ft1 ft2 hK1 hK ht
      generalize evenOf ⟨c, d, T⟩ K t = P at *
      have HC : Hid (∀ w : World, Calls Try.prog 71 #[.agg #[.int .i64 c, .int .i64 d, .int .i64 T], .int .i64 K, .int .i64 t] w fun e w' => e = .returned (.int .i64 P) ∧ Below w.heap.size w w') := hct
      generalize hS : evens (l.take k) K t = S at *
      generalize hS' : evens (l.take (k + 1)) K t = S' at *
      have HS : Hid (evens (l.take (k + 1)) K t = S') := hS'
      have HX : Hid (S' = S + P) := hsn
      dsimp only at *
      clear hS hsn hS' hH hx hct hH2
      have g0 : (0 : Int) ≤ (k : Int) := by omega
      have g1 : (k : Int) < (n : Int) := by omega
      go_wp2_with (go_at_call 71; refine (HC.out _).mono ?_; rintro e w1 ⟨rfl, hb1⟩)
      go_roundw
      case rel => exact ⟨k + 1, by omega, by go_num, by rw [HS.out, HX.out]; go_num, hbel.trans (hb1.mono hbel.size)⟩
      case measure => simp [intOf]; omega
    · have e : l.take k = l := List.take_of_length_le (by rw [← HN.out]; omega)
      rw [e] at hb2 ⊢
      have HF : Hid (fitsB l K t = decide (evens l K t ≤ 2520 * t)) := rfl
      generalize evens l K t = S at *
      go_wp2
      go_ret
      exact ⟨ret_boolR (by rw [HF.out, Bool.eq_iff_iff]; simp; omega), hbel⟩
end Go.Proofs.Ytbeclgilglepeaa
