import Derived.Test.YtdhofmnidlhjpabCHeavy
import Derived.Test.YtdhofmnidlhjpabRLevel
import Derived.BigRegion
namespace Go.Proofs.Ytdhofmnidlhjpab
open Go.RowKit

/-- A task's part, reckoned: what is wanted, in parts of the span. -/
theorem even_low (c d T K M t : Nat) (hM : M = (K - 1) * T) (h : t ≤ d + M) : evenOf ⟨c, d, T⟩ K t = 2520 * wantedOne ⟨c, d, T⟩ t := by
  subst hM
  unfold evenOf wantedOne
  dsimp only
  by_cases h1 : t < d
  · rw [if_pos h1, if_neg (by omega)]
  · rw [if_neg h1, if_pos h, if_pos (by omega), Nat.mul_assoc]
theorem even_high (c d T K M t : Nat) (hM : M = (K - 1) * T) (h : ¬ t ≤ d + M) : evenOf ⟨c, d, T⟩ K t = 2520 * (K * c) + (t - (d + M)) * (c * (2520 / T)) := by
  subst hM
  unfold evenOf
  dsimp only
  rw [if_neg (by omega), if_neg h, Nat.mul_assoc]
  congr 1
  rw [Nat.mul_comm c, Nat.mul_assoc]

set_option maxRecDepth 100000 in
set_option maxHeartbeats 1600000 in
theorem reckoned_of (c d T K t : Nat) (w : World) (hc : c ≤ 9) (hd9 : d ≤ 9) (hT : 1 ≤ T) (hT9 : T ≤ 9) (hK1 : 1 ≤ K) (hK : K ≤ 20) (ht : t ≤ 1000) :
    Calls Try.prog 72 #[.agg #[.int .i64 c, .int .i64 d, .int .i64 T], .int .i64 K, .int .i64 t] w fun e w' => e = .returned (.int .i64 (evenOf ⟨c, d, T⟩ K t)) ∧ Below w.heap.size w w' := by
  obtain ⟨M, hM⟩ : ∃ M, M = (K - 1) * T := ⟨_, rfl⟩
  have hm : ((K : Int) - 1) * T = (M : Int) := by rw [hM]; exact nat_of_mul1 K T hK1
  have hMb : M ≤ 171 := by rw [hM]; exact Nat.mul_le_mul (show K - 1 ≤ 19 by omega) hT9
  have HP : Hid (∀ w : World, Calls Try.prog 51 #[.agg #[.int .i64 c, .int .i64 d, .int .i64 T], .int .i64 t] w fun e w' => e = .returned (.int .i64 (wantedOne ⟨c, d, T⟩ t)) ∧ Below w.heap.size w w') :=
    fun w => part_of c d T t w hc hd9 hT hT9 (by omega)
  have HR : Hid (∀ w : World, Calls Try.prog 55 #[.agg #[.int .i64 c, .int .i64 d, .int .i64 T]] w fun e w' => e = .returned (.int .i64 ((c * (2520 / T) : Nat) : Int)) ∧ Below w.heap.size w w') :=
    fun w => rate_of c d T w hc hT hT9
  by_cases h2 : t ≤ d + M
  · have HE : Hid (evenOf ⟨c, d, T⟩ K t = 2520 * wantedOne ⟨c, d, T⟩ t) := even_low c d T K M t hM h2
    have hwl := wantedOne_le ⟨c, d, T⟩ t hc
    generalize wantedOne ⟨c, d, T⟩ t = P at *
    have hle : (t : Int) ≤ (d : Int) + (M : Int) := by omega
    clear hM HR
    go_enter Try.func72, Try.ntmps72
    go_wp2_with (go_at_call 51; refine (HP.out _).mono ?_; rintro e w1 ⟨rfl, hb1⟩)
    go_ret
    exact ⟨ret_int (by rw [HE.out]; simp; omega), ((Below.refl _ _).alloc (Nat.le_refl _) _).trans (hb1.mono (by simp))⟩
  · have HE : Hid (evenOf ⟨c, d, T⟩ K t = 2520 * (K * c) + (t - (d + M)) * (c * (2520 / T))) := even_high c d T K M t hM h2
    have hpl := rate_le c T hc
    generalize c * (2520 / T) = P at *
    obtain ⟨A, hA⟩ : ∃ A, A = K * c := ⟨_, rfl⟩
    have ha : (K : Int) * (c : Int) = (A : Int) := by rw [hA]; simp
    have hAb : A ≤ 180 := by rw [hA]; exact Nat.mul_le_mul hK hc
    rw [← hA] at HE
    obtain ⟨B, hB⟩ : ∃ B, B = (t - (d + M)) * P := ⟨_, rfl⟩
    have hbb : ((t : Int) - ((d : Int) + (M : Int))) * (P : Int) = (B : Int) := by rw [hB, Int.natCast_mul, Int.ofNat_sub (by omega)]; simp
    have hBb : B ≤ 22680000 := by rw [hB]; exact Nat.mul_le_mul (show t - (d + M) ≤ 1000 by omega) hpl
    rw [← hB] at HE
    have hlt : (d : Int) + (M : Int) < (t : Int) := by omega
    clear hM HP hA hB
    have ew1 : IntKind.i64.wrap (A : Int) = (A : Int) := IntWalk.i64_in _ (by omega)
    have ew2 : IntKind.i64.wrap ((A : Int) * 2520) = (A : Int) * 2520 := IntWalk.i64_in _ (by omega)
    have ew3 : IntKind.i64.wrap ((t : Int) - ((d : Int) + (M : Int))) = (t : Int) - ((d : Int) + (M : Int)) := IntWalk.i64_in _ (by omega)
    have ew4 : IntKind.i64.wrap (B : Int) = (B : Int) := IntWalk.i64_in _ (by omega)
    have ew5 : IntKind.i64.wrap ((A : Int) * 2520 + (B : Int)) = (A : Int) * 2520 + (B : Int) := IntWalk.i64_in _ (by omega)
    go_enter Try.func72, Try.ntmps72
    go_wp2_with fail
    go_region_held3 (fun w' => w'.cell? ⟨w.heap.size, 0, none⟩ = some (.int .i64 c) ∧ w'.cell? ⟨w.heap.size, 1, none⟩ = some (.int .i64 d) ∧ w'.cell? ⟨w.heap.size, 2, none⟩ = some (.int .i64 T))
      (first | go_keep | (go_split_ands; refine ⟨?_, ?_, ?_⟩ <;> (rw [hb1.cell (by simp)]; simp)))
      ((go_at_call 55; refine (HR.out _).mono ?_; rintro e w1 ⟨rfl, hb1⟩))
    go_wp2
    go_ret
    exact ⟨ret_int (by rw [HE.out]; simp; omega), (((Below.refl _ _).alloc (Nat.le_refl _) _).drew).trans (hb1.mono (by simp))⟩

set_option maxRecDepth 100000 in
set_option maxHeartbeats 1600000 in
theorem reckoned_by (ao : Option Addr) (n cap : Nat) (l : List Tk) (K t : Nat) (w : World) (hn : n = l.length) (hl : l.length ≤ 8) (hx : ∀ x ∈ l, x.c ≤ 9 ∧ x.d ≤ 9 ∧ 1 ≤ x.t ∧ x.t ≤ 9) (hK1 : 1 ≤ K) (hK : K ≤ 20) (ht : t ≤ 1000) (hH : HoldsA w ao l) :
    Calls Try.prog 58 #[.slice ao n cap, .int .i64 K, .int .i64 t] w fun e w' => e = .returned (.int .i64 (evens l K t)) ∧ Below w.heap.size w w' := by
  have HN : Hid (n = l.length) := hn
  have hn8 : n ≤ 8 := by omega
  clear hn hl
  go_enter Try.func58, Try.ntmps58
  go_wp2
  go_loopw [7, 8] (fun s i wr => ∃ k : Nat, k ≤ n ∧ i = .int .i64 k ∧ s = .int .i64 (evens (l.take k) K t : Nat) ∧ Below w.heap.size w wr) (fun _ i _ => n - (intOf i).toNat)
  case atStart => exact ⟨0, Nat.zero_le _, rfl, by simp [evens], Below.refl _ _⟩
  case round =>
    obtain ⟨k, hk, rfl, rfl, hbel⟩ := hrel
    have hb2 := evens_le (l.take k) K t (fun x hx' => (hx x (List.mem_of_mem_take hx')).1) hK (by omega)
    have hb3 : (l.take k).length * 250000000 ≤ 8 * 250000000 := Nat.mul_le_mul (by rw [List.length_take]; omega) (by omega)
    by_cases hlt : k < n
    · have hkl : k < l.length := by rw [← HN.out]; exact hlt
      have hH2 := HoldsA.later hH hbel
      obtain ⟨b, rfl, hb, h0, h1, h2⟩ := hH2 k hkl
      have hsn := evens_snoc l k hkl K t
      obtain ⟨fc, fd, ft1, ft2⟩ := hx _ (List.getElem_mem hkl)
      have hwo := evenOf_le l[k] K t fc hK (by omega)
      generalize l[k] = x at *
      obtain ⟨c, d, T⟩ := x
      have hct := fun w => reckoned_of c d T K t w fc fd ft1 ft2 hK1 hK ht
      generalize evenOf ⟨c, d, T⟩ K t = P at *
      have HC : Hid (∀ w : World, Calls Try.prog 72 #[.agg #[.int .i64 c, .int .i64 d, .int .i64 T], .int .i64 K, .int .i64 t] w fun e w' => e = .returned (.int .i64 P) ∧ Below w.heap.size w w') := hct
      generalize hS : evens (l.take k) K t = S at *
      generalize hS' : evens (l.take (k + 1)) K t = S' at *
      have HS : Hid (evens (l.take (k + 1)) K t = S') := hS'
      have HX : Hid (S' = S + P) := hsn
      dsimp only at *
      clear hS hsn hS' hH hx hct hH2
      have g0 : (0 : Int) ≤ (k : Int) := by omega
      have g1 : (k : Int) < (n : Int) := by omega
      go_wp2_with (go_at_call 72; refine (HC.out _).mono ?_; rintro e w1 ⟨rfl, hb1⟩)
      go_roundw
      case rel => exact ⟨k + 1, by omega, by go_num, by rw [HS.out, HX.out]; go_num, hbel.trans (hb1.mono hbel.size)⟩
      case measure => simp [intOf]; omega
    · go_wp2
      go_ret
      exact ⟨ret_int (by rw [List.take_of_length_le (by rw [← HN.out]; omega)]), hbel⟩

set_option maxRecDepth 100000 in
set_option maxHeartbeats 1600000 in
theorem passes_level (ao : Option Addr) (n cap : Nat) (L : List Tk) (K : Nat) (w : World) (hn : n = L.length) (hl : L.length ≤ 8) (hx : ∀ x ∈ L, x.c ≤ 9 ∧ x.d ≤ 9 ∧ 1 ≤ x.t ∧ x.t ≤ 9) (hK1 : 1 ≤ K) (hK : K ≤ 20) (hH : HoldsA w ao L) :
    Calls Try.prog 41 #[.slice ao n cap, .int .i64 K] w fun e w' => e = .returned (.bool (levelAll L K L)) ∧ Below w.heap.size w w' := by
  have HRk : Hid (∀ (t : Nat) (wx : World), Below w.heap.size w wx → t ≤ 1000 → Calls Try.prog 58 #[.slice ao n cap, .int .i64 K, .int .i64 t] wx fun e w' => e = .returned (.int .i64 (evens L K t)) ∧ Below wx.heap.size wx w') :=
    fun t wx hb ht => reckoned_by ao n cap L K t wx hn hl hx hK1 hK ht (hH.later hb)
  have HRb : Hid (∀ t, t ≤ 1000 → evens L K t ≤ 2000000000) := by
    intro t ht
    have h1 := evens_le L K t (fun x hx' => (hx x hx').1) hK (by omega)
    have h2 : L.length * 250000000 ≤ 8 * 250000000 := Nat.mul_le_mul hl (Nat.le_refl _)
    omega
  have HN : Hid (n = L.length) := hn
  have hn8 : n ≤ 8 := by omega
  clear hn hl
  go_enter Try.func41, Try.ntmps41
  go_wp2
  go_loopw [5, 6, 7] (fun i _ _ wr => ∃ k : Nat, k ≤ n ∧ i = .int .i64 k ∧ levelAll L K L = levelAll L K (L.drop k) ∧ Below w.heap.size w wr) (fun i _ _ _ => n - (intOf i).toNat)
  case atStart => exact ⟨0, by omega, rfl, by simp, Below.refl _ _⟩
  case round =>
    obtain ⟨k, hk, rfl, hall, hbr⟩ := hrel
    have HA : Hid (levelAll L K L = levelAll L K (L.drop k)) := hall
    clear hall
    by_cases hlt : k < n
    · have hkl : k < L.length := by rw [← HN.out]; exact hlt
      obtain ⟨fc, fd, ft1, ft2⟩ := hx _ (List.getElem_mem hkl)
      have hdr := levelAll_drop L K k hkl
      obtain ⟨b, hao, hbl, h0, h1, h2⟩ := hH k hkl
      generalize L[k] = x at *
      obtain ⟨c, d, T⟩ := x
      have HDr : Hid (levelAll L K (L.drop k) = (levelOne L ⟨c, d, T⟩ K K 0 && levelAll L K (L.drop (k + 1)))) := hdr
      dsimp only at *
      clear hdr hx h0 hH
      subst hao
      have g0 : (0 : Int) ≤ (k : Int) := by omega
      have g1 : (k : Int) < (n : Int) := by omega
      go_wp2_with fail
      go_loopw [6, 7] (fun j _ wr => ∃ m : Nat, m ≤ K ∧ j = .int .i64 m ∧ levelOne L ⟨c, d, T⟩ K K 0 = levelOne L ⟨c, d, T⟩ K (K - m) m ∧ Below w.heap.size w wr) (fun j _ _ => K - (intOf j).toNat)
      case atStart => exact ⟨0, by omega, rfl, rfl, hbr⟩
      case round =>
        obtain ⟨m, hm, rfl, hone, hbr2⟩ := hrel
        have HO : Hid (levelOne L ⟨c, d, T⟩ K K 0 = levelOne L ⟨c, d, T⟩ K (K - m) m) := hone
        clear hone
        by_cases hmK : m < K
        · have e1 : K - m = (K - (m + 1)) + 1 := by omega
          rw [e1] at HO
          clear e1
          obtain ⟨M, hM⟩ : ∃ M, M = m * T := ⟨_, rfl⟩
          have hmm : (m : Int) * (T : Int) = (M : Int) := by rw [hM]; simp
          have hMb : M ≤ 180 := by rw [hM]; exact Nat.mul_le_mul (show m ≤ 20 by omega) ft2
          have hcd := hbr2.cell (p := ⟨b, k * 3 + 1, none⟩) hbl
          rw [h1] at hcd
          have hcT := hbr2.cell (p := ⟨b, k * 3 + 2, none⟩) hbl
          rw [h2] at hcT
          have hbl2 : b < wr.heap.size := Nat.lt_of_lt_of_le hbl hbr2.size
          have hft := HRk.out (d + M)
          have hfl := HRb.out (d + M) (by omega)
          obtain ⟨F, hF⟩ : ∃ F, F = evens L K (d + M) := ⟨_, rfl⟩
          rw [← hF] at hft hfl
          have HF : Hid (F = evens L K (d + m * T)) := by unfold Hid; rw [← hM]; exact hF
          have HM2 : Hid (d + m * T = d + M) := by unfold Hid; rw [hM]
          clear hF hM h1 h2
          have HFt2 : Hid (∀ wx : World, Below w.heap.size w wx → Calls Try.prog 58 #[.slice (some ⟨b, 0, none⟩) n cap, .int .i64 K, .int .i64 ((d : Int) + (M : Int))] wx fun e w' => e = .returned (.int .i64 F) ∧ Below wx.heap.size wx w') := by
            intro wx hb
            have := hft wx hb (by omega)
            rw [Int.natCast_add] at this
            exact this
          clear hft
          have ew1 : IntKind.i64.wrap (M : Int) = (M : Int) := IntWalk.i64_in _ (by omega)
          have ew2 : IntKind.i64.wrap ((d : Int) + (M : Int)) = (d : Int) + (M : Int) := IntWalk.i64_in _ (by omega)
          have ew3 : IntKind.i64.wrap (((d : Int) + (M : Int)) * 2520) = ((d : Int) + (M : Int)) * 2520 := IntWalk.i64_in _ (by omega)
          go_wp2_with fail
          go_big_region
          by_cases hbad : 2520 * (d + M) < F
          · have HB : Hid (fitsB L K (d + m * T) = false) := by unfold Hid fitsB; rw [← HF.out, HM2.out]; simp; omega
            go_wp2_with (go_at_call 58; refine (HFt2.out _ (by first | exact hbr2 | exact belN hbr2 _)).mono ?_; rintro e w5 ⟨rfl, hb5⟩)
            go_ret
            exact ⟨ret_boolR (by rw [HA.out, HDr.out, HO.out, levelOne_no L ⟨c, d, T⟩ K _ m HB.out]; rfl), hbr2.drew.trans (hb5.mono hbr2.size)⟩
          · have HB : Hid (fitsB L K (d + m * T) = true) := by unfold Hid fitsB; rw [← HF.out, HM2.out]; simp; omega
            go_wp2_with (go_at_call 58; refine (HFt2.out _ (by first | exact hbr2 | exact belN hbr2 _)).mono ?_; rintro e w5 ⟨rfl, hb5⟩)
            go_roundw
            case rel => exact ⟨m + 1, by omega, by go_num, by rw [HO.out]; exact levelOne_yes L ⟨c, d, T⟩ K _ m HB.out, hbr2.drew.trans (hb5.mono hbr2.size)⟩
            case measure => simp [intOf]; omega
        · have e0 : K - m = 0 := by omega
          have HO2 : Hid (levelAll L K L = levelAll L K (L.drop (k + 1))) := by unfold Hid; rw [HA.out, HDr.out, HO.out, e0]; rfl
          clear e0
          go_wp2
          go_roundw
          case rel => exact ⟨k + 1, by omega, by go_num, HO2.out, hbr2⟩
          case measure => simp [intOf]; omega
    · go_wp2
      go_ret
      exact ⟨ret_boolR (by rw [HA.out]; exact (levelAll_end L K k (by rw [← HN.out]; omega)).symm), hbr⟩
end Go.Proofs.Ytdhofmnidlhjpab
