import Derived.Test.YtdhofmnidlhjpabRTest
import Derived.Deep.RegionHeld3
namespace Go.Proofs.Ytdhofmnidlhjpab
open Go.RowKit

theorem nat_of_mul1 (k T : Nat) (h : 1 ≤ k) : ((k : Int) - 1) * T = (((k - 1) * T : Nat) : Int) := by
  rw [Int.natCast_mul, Int.ofNat_sub h]; rfl

set_option maxRecDepth 100000 in
set_option maxHeartbeats 1600000 in
theorem ref_evenly (c d T k t : Nat) (w : World) (hc : c ≤ 9) (hd9 : d ≤ 9) (hT : 1 ≤ T) (hT9 : T ≤ 9) (hk1 : 1 ≤ k) (hk : k ≤ 20) (ht : t ≤ 10000) :
    Calls Try.prog 82 #[.agg #[.int .i64 c, .int .i64 d, .int .i64 T], .int .i64 k, .int .i64 t] w fun e w' => e = .returned (.int .i64 (evenOf ⟨c, d, T⟩ k t)) ∧ Below w.heap.size w w' := by
  obtain ⟨M, hM⟩ : ∃ M, M = (k - 1) * T := ⟨_, rfl⟩
  have hm : ((k : Int) - 1) * T = (M : Int) := by rw [hM]; exact nat_of_mul1 k T hk1
  have hMb : M ≤ 171 := by rw [hM]; exact Nat.mul_le_mul (show k - 1 ≤ 19 by omega) hT9
  have HM : Hid (M = (k - 1) * T) := hM
  clear hM
  by_cases h1 : t < d
  · have HE : Hid (evenOf ⟨c, d, T⟩ k t = 0) := by unfold Hid evenOf; rw [if_pos h1]
    go_enter Try.func82, Try.ntmps82
    go_wp2
    go_ret
    exact ⟨ret_int (by rw [HE.out]; rfl), (Below.refl _ _).alloc (Nat.le_refl _) _⟩
  · by_cases h2 : t ≤ d + M
    · have HE : Hid (evenOf ⟨c, d, T⟩ k t = 2520 * c * ((t - d) / T + 1)) := by unfold Hid evenOf; rw [if_neg h1, if_pos (by dsimp only; rw [← HM.out]; exact h2)]
      obtain ⟨Q, hQ⟩ : ∃ Q, Q = (t - d) / T := ⟨_, rfl⟩
      have hq : ((t : Int) - d) / T = (Q : Int) := by rw [hQ, Int.natCast_ediv, Int.ofNat_sub (by omega)]
      have hQb : Q ≤ 10000 := by rw [hQ]; exact Nat.le_trans (Nat.div_le_self _ _) (by omega)
      rw [← hQ] at HE
      obtain ⟨R, hR⟩ : ∃ R, R = 2520 * c * (Q + 1) := ⟨_, rfl⟩
      have hr : 2520 * (c : Int) * ((Q : Int) + 1) = (R : Int) := by rw [hR]; simp
      have hRb : R ≤ 226822680 := by rw [hR]; exact Nat.mul_le_mul (show 2520 * c ≤ 22680 by omega) (show Q + 1 ≤ 10001 by omega)
      rw [← hR] at HE
      clear hQ hR
      go_enter Try.func82, Try.ntmps82
      go_wp2_with fail
      go_quiet (fail)
      go_wp2
      go_ret
      exact ⟨ret_int (by rw [HE.out]), belN ((Below.refl _ _).alloc (Nat.le_refl _) _) _⟩
    · have HE : Hid (evenOf ⟨c, d, T⟩ k t = 2520 * k * c + c * (t - (d + M)) * (2520 / T)) := by unfold Hid evenOf; rw [if_neg h1, if_neg (by dsimp only; rw [← HM.out]; exact h2)]; dsimp only; rw [← HM.out]
      obtain ⟨Q, hQ⟩ : ∃ Q, Q = 2520 / T := ⟨_, rfl⟩
      have hq : (2520 : Int) / T = (Q : Int) := by rw [hQ, Int.natCast_ediv]; rfl
      have hQb : Q ≤ 2520 := by rw [hQ]; exact Nat.div_le_self _ _
      rw [← hQ] at HE
      obtain ⟨A, hA⟩ : ∃ A, A = 2520 * k * c := ⟨_, rfl⟩
      have ha : 2520 * (k : Int) * (c : Int) = (A : Int) := by rw [hA]; simp
      have hAb : A ≤ 453600 := by rw [hA]; exact Nat.mul_le_mul (show 2520 * k ≤ 50400 by omega) hc
      rw [← hA] at HE
      obtain ⟨B, hB⟩ : ∃ B, B = c * (t - (d + M)) := ⟨_, rfl⟩
      have hb : (c : Int) * ((t : Int) - ((d : Int) + (M : Int))) = (B : Int) := by rw [hB, Int.natCast_mul, Int.ofNat_sub (by omega)]; simp
      have hBb : B ≤ 90000 := by rw [hB]; exact Nat.mul_le_mul hc (show t - (d + M) ≤ 10000 by omega)
      rw [← hB] at HE
      obtain ⟨R, hR⟩ : ∃ R, R = B * Q := ⟨_, rfl⟩
      have hr : (B : Int) * (Q : Int) = (R : Int) := by rw [hR]; simp
      have hRb : R ≤ 226800000 := by rw [hR]; exact Nat.mul_le_mul hBb hQb
      rw [← hR] at HE
      clear hQ hR hA hB
      have h1' : d ≤ t := by omega
      have h2' : (d : Int) + (M : Int) < (t : Int) := by omega
      go_enter Try.func82, Try.ntmps82
      go_wp2_with fail
      go_quiet (fail)
      go_wp2
      go_ret
      exact ⟨ret_int (by rw [HE.out]; simp), belN ((Below.refl _ _).alloc (Nat.le_refl _) _) _⟩

theorem evenOf_le (x : Tk) (k t : Nat) (hc : x.c ≤ 9) (hk : k ≤ 20) (ht : t ≤ 10000) : evenOf x k t ≤ 250000000 := by
  unfold evenOf
  by_cases h1 : t < x.d
  · rw [if_pos h1]; omega
  · rw [if_neg h1]
    by_cases h2 : t ≤ x.d + (k - 1) * x.t
    · rw [if_pos h2]
      have hQb : (t - x.d) / x.t ≤ 10000 := Nat.le_trans (Nat.div_le_self _ _) (by omega)
      have : 2520 * x.c * ((t - x.d) / x.t + 1) ≤ 22680 * 10001 := Nat.mul_le_mul (by omega) (by omega)
      omega
    · rw [if_neg h2]
      have h3 : 2520 * k * x.c ≤ 50400 * 9 := Nat.mul_le_mul (by omega) hc
      have h4 : x.c * (t - (x.d + (k - 1) * x.t)) ≤ 9 * 10000 := Nat.mul_le_mul hc (by omega)
      have h5 : x.c * (t - (x.d + (k - 1) * x.t)) * (2520 / x.t) ≤ (9 * 10000) * 2520 := Nat.mul_le_mul h4 (Nat.div_le_self _ _)
      omega

theorem evens_le (l : List Tk) (k t : Nat) (hc : ∀ x ∈ l, x.c ≤ 9) (hk : k ≤ 20) (ht : t ≤ 10000) : evens l k t ≤ l.length * 250000000 := by
  induction l with
  | nil => simp [evens]
  | cons x r ih =>
    have h1 := evenOf_le x k t (hc x (by simp)) hk ht
    have h2 := ih (fun y hy => hc y (by simp [hy]))
    simp only [evens, List.length_cons, Nat.add_mul]
    omega

set_option maxRecDepth 100000 in
set_option maxHeartbeats 1600000 in
theorem ref_fits (ao : Option Addr) (n cap : Nat) (l : List Tk) (K t : Nat) (w : World) (hn : n = l.length) (hl : l.length ≤ 8) (hx : ∀ x ∈ l, x.c ≤ 9 ∧ x.d ≤ 9 ∧ 1 ≤ x.t ∧ x.t ≤ 9) (hK1 : 1 ≤ K) (hK : K ≤ 20) (ht : t ≤ 10000) (hH : HoldsA w ao l) :
    Calls Try.prog 79 #[.slice ao n cap, .int .i64 K, .int .i64 t] w fun e w' => e = .returned (.bool (fitsB l K t)) ∧ Below w.heap.size w w' := by
  have HN : Hid (n = l.length) := hn
  have hn8 : n ≤ 8 := by omega
  clear hn hl
  go_enter Try.func79, Try.ntmps79
  go_wp2
  go_loopw [7, 8, 9] (fun s i _ wr => ∃ k : Nat, k ≤ n ∧ i = .int .i64 k ∧ s = .int .i64 (evens (l.take k) K t : Nat) ∧ Below w.heap.size w wr) (fun _ i _ _ => n - (intOf i).toNat)
  case atStart => exact ⟨0, Nat.zero_le _, rfl, by simp [evens], Below.refl _ _⟩
  case round =>
    obtain ⟨k, hk, rfl, rfl, hbel⟩ := hrel
    have hb2 := evens_le (l.take k) K t (fun x hx' => (hx x (List.mem_of_mem_take hx')).1) hK ht
    have hb3 : (l.take k).length * 250000000 ≤ 8 * 250000000 := Nat.mul_le_mul (by rw [List.length_take]; omega) (by omega)
    by_cases hlt : k < n
    · have hkl : k < l.length := by rw [← HN.out]; exact hlt
      have hH2 := HoldsA.later hH hbel
      obtain ⟨b, rfl, hb, h0, h1, h2⟩ := hH2 k hkl
      have hsn := evens_snoc l k hkl K t
      obtain ⟨fc, fd, ft1, ft2⟩ := hx _ (List.getElem_mem hkl)
      have hwo := evenOf_le l[k] K t fc hK ht
      generalize l[k] = x at *
      obtain ⟨c, d, T⟩ := x
      have hct := fun w => ref_evenly c d T K t w fc fd ft1 ft2 hK1 hK ht
      generalize evenOf ⟨c, d, T⟩ K t = P at *
      have HC : Hid (∀ w : World, Calls Try.prog 82 #[.agg #[.int .i64 c, .int .i64 d, .int .i64 T], .int .i64 K, .int .i64 t] w fun e w' => e = .returned (.int .i64 P) ∧ Below w.heap.size w w') := hct
      generalize hS : evens (l.take k) K t = S at *
      generalize hS' : evens (l.take (k + 1)) K t = S' at *
      have HS : Hid (evens (l.take (k + 1)) K t = S') := hS'
      have HX : Hid (S' = S + P) := hsn
      dsimp only at *
      clear hS hsn hS' hH hx hct hH2
      have g0 : (0 : Int) ≤ (k : Int) := by omega
      have g1 : (k : Int) < (n : Int) := by omega
      go_wp2_with (go_at_call 82; refine (HC.out _).mono ?_; rintro e w1 ⟨rfl, hb1⟩)
      go_roundw
      case rel => exact ⟨k + 1, by omega, by go_num, by rw [HS.out, HX.out]; go_num, hbel.trans (hb1.mono hbel.size)⟩
      case measure => simp [intOf]; omega
    · have e : l.take k = l := List.take_of_length_le (by rw [← HN.out]; omega)
      rw [e] at hb2 ⊢
      have HF : Hid (fitsB l K t = decide (evens l K t ≤ 2520 * t)) := rfl
      generalize evens l K t = S at *
      go_wp2
      go_ret
      exact ⟨ret_boolR (by rw [HF.out, Bool.eq_iff_iff]; simp; omega), hbel⟩
end Go.Proofs.Ytdhofmnidlhjpab

namespace Go.Proofs.Ytdhofmnidlhjpab
open Go.RowKit

/-- Level's two answers. -/
def levelAns (l : List UInt8) (k : Int) : Bool × Int :=
  if (checkOf l).1 ≠ 0 then (false, (checkOf l).1) else
  if k < 1 ∨ 20 < k then (false, 4) else
  if heavyB (tasksOf l) = true then (false, 0) else (levelAll (tasksOf l) k.toNat (tasksOf l), 0)

theorem ret_lev {p : Bool × Int} {a : Bool} {b : Int} (h : p = (a, b)) : Ending.returned (.tuple #[.bool a, .int .i64 b]) = .returned (.tuple #[.bool p.1, .int .i64 p.2]) := by rw [h]

theorem levelAll_drop (L : List Tk) (K i : Nat) (h : i < L.length) : levelAll L K (L.drop i) = (levelOne L L[i] K K 0 && levelAll L K (L.drop (i + 1))) := by
  rw [List.drop_eq_getElem_cons h, levelAll]
theorem levelAll_end (L : List Tk) (K i : Nat) (h : L.length ≤ i) : levelAll L K (L.drop i) = true := by
  rw [List.drop_eq_nil_of_le h, levelAll]
theorem levelOne_no (L : List Tk) (x : Tk) (K n j : Nat) (h : fitsB L K (x.d + j * x.t) = false) : levelOne L x K (n + 1) j = false := by
  rw [levelOne, h]; rfl
theorem levelOne_yes (L : List Tk) (x : Tk) (K n j : Nat) (h : fitsB L K (x.d + j * x.t) = true) : levelOne L x K (n + 1) j = levelOne L x K n (j + 1) := by
  rw [levelOne, h]; rfl

set_option maxRecDepth 100000 in
set_option maxHeartbeats 1000000 in
theorem ref_Level (s : ByteArray) (K0 : Int) (w : World) (hs : s.size ≤ maxLen) (hK0 : -9223372036854775808 ≤ K0) (hK1 : K0 ≤ 9223372036854775807) :
    Calls Try.prog 66 #[.string s, .int .i64 K0] w fun e w' => e = .returned (.tuple #[.bool (levelAns s.data.toList K0).1, .int .i64 (levelAns s.data.toList K0).2]) ∧ Below w.heap.size w w' := by
  by_cases h1 : (checkOf s.data.toList).1 = 0
  · have hn8 := (set_facts _ h1).2.1
    have hx := set_bounds _ h1
    have HC := fun w => ref_check_ok s w hs h1
    have HK := fun w => ref_tasks_ok s w h1
    by_cases h2 : K0 < 1 ∨ 20 < K0
    · have HD : Hid (levelAns s.data.toList K0 = (false, 4)) := by unfold Hid levelAns; rw [if_neg (by simp [h1]), if_pos h2]
      clear h1
      rcases h2 with h2 | h2
      · go_enter Try.func66, Try.ntmps66
        go_wp2_with fail
        refine (HC _).mono ?_
        rintro e w1 ⟨rfl, hb1⟩
        go_wp2
        go_ret2
        exact ⟨ret_lev HD.out, hb1⟩
      · have h0 : ¬ K0 < 1 := by omega
        go_enter Try.func66, Try.ntmps66
        go_wp2_with fail
        refine (HC _).mono ?_
        rintro e w1 ⟨rfl, hb1⟩
        go_wp2
        go_ret2
        exact ⟨ret_lev HD.out, hb1⟩
    · obtain ⟨K, rfl⟩ := Int.eq_ofNat_of_zero_le (show 0 ≤ K0 by omega)
      have hKa : 1 ≤ K := by omega
      have hKb : K ≤ 20 := by omega
      cases hh : heavyB (tasksOf s.data.toList)
      · have HD : Hid (levelAns s.data.toList (K : Int) = (levelAll (tasksOf s.data.toList) K (tasksOf s.data.toList), 0)) := by unfold Hid levelAns; rw [if_neg (by simp [h1]), if_neg h2, if_neg (by simp [hh])]; rfl
        generalize tasksOf s.data.toList = L at *
        have HHv : Hid (∀ (ao : Option Addr) (n cap : Nat) (w : World), n = L.length → HoldsA w ao L → Calls Try.prog 76 #[.slice ao n cap] w fun e w' => e = .returned (.bool false) ∧ ∃ q, w' = w.drewN q) := by
          intro ao n cap w hn hH; have := ref_heavy ao n cap L w hn hn8 hx hH; rw [hh] at this; exact this
        clear h1 hh h2
        go_enter Try.func66, Try.ntmps66
        go_wp2_with fail
        refine (HC _).mono ?_
        rintro e w1 ⟨rfl, hb1⟩
        go_wp2_with fail
        refine (HK _).mono ?_
        rintro e w2 ⟨ao, cap, rfl, hH, hb2⟩
        obtain ⟨n, hn⟩ : ∃ n, n = L.length := ⟨_, rfl⟩
        rw [← hn]
        have HN : Hid (n = L.length) := hn
        clear hn
        go_wp2_with fail
        refine (HHv.out ao n cap _ HN.out hH).mono ?_
        rintro e w3 ⟨rfl, q, rfl⟩
        have hbel : Below w.heap.size w w2 := hb1.trans (hb2.mono hb1.size)
        have HFt : Hid (∀ (t : Nat) (wx : World), Below w2.heap.size w2 wx → t ≤ 10000 → Calls Try.prog 79 #[.slice ao n cap, .int .i64 K, .int .i64 t] wx fun e w' => e = .returned (.bool (fitsB L K t)) ∧ Below wx.heap.size wx w') :=
          fun t wx hb ht => ref_fits ao n cap L K t wx HN.out hn8 hx hKa hKb ht (hH.later hb)
        have hn8' : n ≤ 8 := by rw [HN.out]; exact hn8
        clear HHv HC HK hb1 hb2 hn8
        go_wp2_with fail
        go_loopw [10, 11, 12] (fun i _ _ wr => ∃ k : Nat, k ≤ n ∧ i = .int .i64 k ∧ levelAll L K L = levelAll L K (L.drop k) ∧ Below w2.heap.size w2 wr) (fun i _ _ _ => n - (intOf i).toNat)
        case atStart => exact ⟨0, by omega, rfl, by simp, belN (Below.refl _ _) _⟩
        case round =>
          obtain ⟨k, hk, rfl, hall, hbr⟩ := hrel
          have HA : Hid (levelAll L K L = levelAll L K (L.drop k)) := hall
          clear hall
          by_cases hlt : k < n
          · have hkl : k < L.length := by rw [← HN.out]; exact hlt
            obtain ⟨fc, fd, ft1, ft2⟩ := hx _ (List.getElem_mem hkl)
            have hdr := levelAll_drop L K k hkl
            obtain ⟨b, hao, hbl, h0, h1, h2⟩ := hH k hkl
            generalize L[k] = x at *
            obtain ⟨c, d, T⟩ := x
            have HDr : Hid (levelAll L K (L.drop k) = (levelOne L ⟨c, d, T⟩ K K 0 && levelAll L K (L.drop (k + 1)))) := hdr
            dsimp only at *
            clear hdr hx h0 hH
            subst hao
            have g0 : (0 : Int) ≤ (k : Int) := by omega
            have g1 : (k : Int) < (n : Int) := by omega
            go_wp2_with fail
            go_loopw [11, 12] (fun j _ wr => ∃ m : Nat, m ≤ K ∧ j = .int .i64 m ∧ levelOne L ⟨c, d, T⟩ K K 0 = levelOne L ⟨c, d, T⟩ K (K - m) m ∧ Below w2.heap.size w2 wr) (fun j _ _ => K - (intOf j).toNat)
            case atStart => exact ⟨0, by omega, rfl, rfl, hbr⟩
            case round =>
              obtain ⟨m, hm, rfl, hone, hbr2⟩ := hrel
              have HO : Hid (levelOne L ⟨c, d, T⟩ K K 0 = levelOne L ⟨c, d, T⟩ K (K - m) m) := hone
              clear hone
              by_cases hmK : m < K
              · have e1 : K - m = (K - (m + 1)) + 1 := by omega
                rw [e1] at HO
                clear e1
                obtain ⟨M, hM⟩ : ∃ M, M = m * T := ⟨_, rfl⟩
                have hmm : (m : Int) * (T : Int) = (M : Int) := by rw [hM]; simp
                have hMb : M ≤ 180 := by rw [hM]; exact Nat.mul_le_mul (show m ≤ 20 by omega) ft2
                have hcd := hbr2.cell (p := ⟨b, k * 3 + 1, none⟩) hbl
                rw [h1] at hcd
                have hcT := hbr2.cell (p := ⟨b, k * 3 + 2, none⟩) hbl
                rw [h2] at hcT
                have hbl2 : b < wr.heap.size := Nat.lt_of_lt_of_le hbl hbr2.size
                have hft := HFt.out (d + M)
                obtain ⟨F, hF⟩ : ∃ F, F = fitsB L K (d + M) := ⟨_, rfl⟩
                rw [← hF] at hft
                have HF : Hid (F = fitsB L K (d + m * T)) := by unfold Hid; rw [← hM]; exact hF
                clear hF hM h1 h2
                have HFt2 : Hid (∀ wx : World, Below w2.heap.size w2 wx → Calls Try.prog 79 #[.slice (some ⟨b, 0, none⟩) n cap, .int .i64 K, .int .i64 ((d : Int) + (M : Int))] wx fun e w' => e = .returned (.bool F) ∧ Below wx.heap.size wx w') := by
                  intro wx hb
                  have := hft wx hb (by omega)
                  rw [Int.natCast_add] at this
                  exact this
                clear hft
                have ew1 : IntKind.i64.wrap (M : Int) = (M : Int) := IntWalk.i64_in _ (by omega)
                have ew2 : IntKind.i64.wrap ((d : Int) + (M : Int)) = (d : Int) + (M : Int) := IntWalk.i64_in _ (by omega)
                go_wp2_with fail
                go_region_held3 (fun w' => w'.cell? ⟨b, k * 3 + 1, none⟩ = some (.int .i64 d) ∧ w'.cell? ⟨b, k * 3 + 2, none⟩ = some (.int .i64 T))
                  (first | go_keep | (go_split_ands; refine ⟨?_, ?_⟩ <;> (rw [hb5.cell (by simpa using hbl2)]; simpa using ‹_›)))
                  ((go_at_call 79; refine (HFt2.out _ ?_).mono ?_; (first | exact hbr2.drew | exact hbr2); rintro e w5 ⟨rfl, hb5⟩))
                clear ew1 ew2 hmm hcd hcT HFt2 HFt
                have hb5' : Below w2.heap.size w2 w5 := hbr2.drew.trans (hb5.mono (by exact hbr2.size))
                cases F
                · go_wp2
                  go_ret2
                  exact ⟨ret_lev (by rw [HD.out, HA.out, HDr.out, HO.out, levelOne_no L ⟨c, d, T⟩ K _ m HF.out.symm]; rfl), hbel.trans (hb5'.mono hbel.size)⟩
                · go_wp2
                  go_roundw
                  case rel => exact ⟨m + 1, by omega, by go_num, by rw [HO.out]; exact levelOne_yes L ⟨c, d, T⟩ K _ m HF.out.symm, hb5'⟩
                  case measure => simp [intOf]; omega
              · have e0 : K - m = 0 := by omega
                have HO2 : Hid (levelAll L K L = levelAll L K (L.drop (k + 1))) := by unfold Hid; rw [HA.out, HDr.out, HO.out, e0]; rfl
                clear e0
                go_wp2
                go_roundw
                case rel => exact ⟨k + 1, by omega, by go_num, HO2.out, hbr2⟩
                case measure => simp [intOf]; omega
          · go_wp2
            go_ret2
            exact ⟨ret_lev (by rw [HD.out, HA.out, levelAll_end L K k (by rw [← HN.out]; omega)]), hbel.trans (hbr.mono hbel.size)⟩
      · have HD : Hid (levelAns s.data.toList (K : Int) = (false, 0)) := by unfold Hid levelAns; rw [if_neg (by simp [h1]), if_neg h2, if_pos hh]
        generalize tasksOf s.data.toList = L at *
        have HHv : Hid (∀ (ao : Option Addr) (n cap : Nat) (w : World), n = L.length → HoldsA w ao L → Calls Try.prog 76 #[.slice ao n cap] w fun e w' => e = .returned (.bool true) ∧ ∃ q, w' = w.drewN q) := by
          intro ao n cap w hn hH; have := ref_heavy ao n cap L w hn hn8 hx hH; rw [hh] at this; exact this
        clear h1 hh h2
        go_enter Try.func66, Try.ntmps66
        go_wp2_with fail
        refine (HC _).mono ?_
        rintro e w1 ⟨rfl, hb1⟩
        go_wp2_with fail
        refine (HK _).mono ?_
        rintro e w2 ⟨ao, cap, rfl, hH, hb2⟩
        obtain ⟨n, hn⟩ : ∃ n, n = L.length := ⟨_, rfl⟩
        rw [← hn]
        have HN : Hid (n = L.length) := hn
        clear hn
        go_wp2_with fail
        refine (HHv.out ao n cap _ HN.out hH).mono ?_
        rintro e w3 ⟨rfl, q, rfl⟩
        go_wp2
        go_ret2
        exact ⟨ret_lev HD.out, belN (hb1.trans (hb2.mono hb1.size)) _⟩
  · have HD : Hid (levelAns s.data.toList K0 = (false, (checkOf s.data.toList).1)) := by unfold Hid levelAns; rw [if_pos h1]
    have HC := fun w => ref_check s w hs
    have hck := checkOf_bound s.data.toList
    generalize (checkOf s.data.toList).2 = c2 at *
    generalize (checkOf s.data.toList).1 = c1 at *
    have hne : (c1 != 0) = true := by simpa using h1
    go_enter Try.func66, Try.ntmps66
    go_wp2_with fail
    refine (HC _).mono ?_
    rintro e w1 ⟨rfl, hb1⟩
    go_wp2
    go_ret2
    exact ⟨ret_lev HD.out, hb1⟩
end Go.Proofs.Ytdhofmnidlhjpab
