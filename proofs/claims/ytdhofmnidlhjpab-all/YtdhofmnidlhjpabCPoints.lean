import Derived.Test.YtdhofmnidlhjpabCRead
import Derived.Test.YtdhofmnidlhjpabRPoint
namespace Go.Proofs.Ytdhofmnidlhjpab
open Go.RowKit

theorem pt_val (c d T t : Nat) (hd : d ≤ t) : (((t : Int) - d) % T == 0) = pointOne ⟨c, d, T⟩ t := by
  rw [mod_facts d T t hd, Bool.eq_iff_iff]
  simp [pointOne, hd]
  omega

set_option maxRecDepth 100000 in
set_option maxHeartbeats 1600000 in
theorem is_point_of (c d T t : Nat) (w : World) (hd9 : d ≤ 9) (hT : 1 ≤ T) (hT9 : T ≤ 9) (ht : t ≤ 10000) :
    Calls Try.prog 71 #[.agg #[.int .i64 c, .int .i64 d, .int .i64 T], .int .i64 t] w fun e w' => e = .returned (.bool (pointOne ⟨c, d, T⟩ t)) ∧ Below w.heap.size w w' := by
  by_cases hd : d ≤ t
  · have HP : Hid ((((t : Int) - d) % T == 0) = pointOne ⟨c, d, T⟩ t) := pt_val c d T t hd
    go_enter Try.func71, Try.ntmps71
    go_wp2
    go_ret
    exact ⟨ret_boolR HP.out, (Below.refl _ _).alloc (Nat.le_refl _) _⟩
  · have HW : Hid (pointOne ⟨c, d, T⟩ t = false) := by unfold Hid; simp [pointOne, hd]
    have hdt : (t : Int) < (d : Int) := by omega
    go_enter Try.func71, Try.ntmps71
    go_wp2
    go_ret
    exact ⟨ret_boolR HW.out.symm, (Below.refl _ _).alloc (Nat.le_refl _) _⟩

set_option maxRecDepth 100000 in
set_option maxHeartbeats 1600000 in
theorem is_point (ao : Option Addr) (n cap : Nat) (l : List Tk) (t : Nat) (w : World) (hn : n = l.length) (hl : l.length ≤ 8) (hx : ∀ x ∈ l, x.c ≤ 9 ∧ x.d ≤ 9 ∧ 1 ≤ x.t ∧ x.t ≤ 9) (ht : t ≤ 10000) (hH : HoldsA w ao l) :
    Calls Try.prog 57 #[.slice ao n cap, .int .i64 t] w fun e w' => e = .returned (.bool (pointB l t)) ∧ Below w.heap.size w w' := by
  have HN : Hid (n = l.length) := hn
  have hn8 : n ≤ 8 := by omega
  clear hn hl
  go_enter Try.func57, Try.ntmps57
  go_wp2
  go_loopw [5] (fun i wr => ∃ k : Nat, k ≤ n ∧ i = .int .i64 k ∧ pointB l t = pointB (l.drop k) t ∧ Below w.heap.size w wr) (fun i _ => n - (intOf i).toNat)
  case atStart => exact ⟨0, Nat.zero_le _, rfl, by simp, Below.refl _ _⟩
  case round =>
    obtain ⟨k, hk, rfl, hb, hbel⟩ := hrel
    have HB : Hid (pointB l t = pointB (l.drop k) t) := hb
    clear hb
    by_cases hlt : k < n
    · have hkl : k < l.length := by rw [← HN.out]; exact hlt
      have hH2 := HoldsA.later hH hbel
      obtain ⟨b, rfl, hb, h0, h1, h2⟩ := hH2 k hkl
      obtain ⟨fc, fd, ft1, ft2⟩ := hx _ (List.getElem_mem hkl)
      have hhit := pointB_hit l k hkl t
      have hmiss := pointB_miss l k hkl t
      generalize l[k] = x at *
      obtain ⟨c, d, T⟩ := x
      have hct := fun w => is_point_of c d T t w fd ft1 ft2 ht
      generalize pointOne ⟨c, d, T⟩ t = P at *
      have HC : Hid (∀ w : World, Calls Try.prog 71 #[.agg #[.int .i64 c, .int .i64 d, .int .i64 T], .int .i64 t] w fun e w' => e = .returned (.bool P) ∧ Below w.heap.size w w') := hct
      have H1 : Hid (P = true → pointB (l.drop k) t = true) := hhit
      have H2 : Hid (P = false → pointB (l.drop k) t = pointB (l.drop (k + 1)) t) := hmiss
      dsimp only at *
      clear hhit hmiss hH hx hct hH2
      have g0 : (0 : Int) ≤ (k : Int) := by omega
      have g1 : (k : Int) < (n : Int) := by omega
      cases P
      · go_wp2_with (go_at_call 71; refine (HC.out _).mono ?_; rintro e w1 ⟨rfl, hb1⟩)
        go_roundw
        case rel => exact ⟨k + 1, by omega, by go_num, by rw [HB.out]; exact H2.out trivial, hbel.trans (hb1.mono hbel.size)⟩
        case measure => simp [intOf]; omega
      · go_wp2_with (go_at_call 71; refine (HC.out _).mono ?_; rintro e w1 ⟨rfl, hb1⟩)
        go_ret
        exact ⟨ret_boolR (by rw [HB.out]; exact (H1.out trivial).symm), hbel.trans (hb1.mono hbel.size)⟩
    · go_wp2
      go_ret
      exact ⟨ret_boolR (by rw [HB.out]; exact (pointB_end l k (by rw [← HN.out]; omega) t).symm), hbel⟩

theorem ret_pr {p : Int × Int} {a b : Int} (h : p = (a, b)) : Ending.returned (.tuple #[.int .i64 a, .int .i64 b]) = .returned (.tuple #[.int .i64 p.1, .int .i64 p.2]) := by rw [h]

set_option maxRecDepth 100000 in
set_option maxHeartbeats 1600000 in
theorem look_at_points (ao : Option Addr) (n cap : Nat) (L : List Tk) (Bu m : Nat) (w : World) (hn : n = L.length) (hl : L.length ≤ 8) (hx : ∀ x ∈ L, x.c ≤ 9 ∧ x.d ≤ 9 ∧ 1 ≤ x.t ∧ x.t ≤ 9) (hBu : Bu ≤ 2520) (hm : (m : Int) ≤ 9223372036854775807) (hH : HoldsA w ao L) :
    Calls Try.prog 40 #[.slice ao n cap, .int .i64 Bu, .int .i64 m] w fun e w' => e = .returned (.tuple #[.int .i64 (testFrom L m Bu 1 0).1, .int .i64 (testFrom L m Bu 1 0).2]) ∧ Below w.heap.size w w' := by
  have HP : Hid (∀ (t : Nat) (wx : World), t ≤ 2520 → Below w.heap.size w wx → Calls Try.prog 57 #[.slice ao n cap, .int .i64 t] wx fun e w' => e = .returned (.bool (pointB L t)) ∧ Below wx.heap.size wx w') :=
    fun t wx ht hb => is_point ao n cap L t wx hn hl hx (by omega) (hH.later hb)
  have HW : Hid (∀ (t : Nat) (wx : World), t ≤ 2520 → Below w.heap.size w wx → Calls Try.prog 32 #[.slice ao n cap, .int .i64 t] wx fun e w' => e = .returned (.int .i64 (wanted L t)) ∧ Below wx.heap.size wx w') :=
    fun t wx ht hb => wanted_by ao n cap L t wx hn hl hx (by omega) (hH.later hb)
  have HWB : Hid (∀ t, t ≤ 2520 → wanted L t ≤ 181512) := by
    intro t ht
    have h1 := wanted_le L t (fun x hx' => (hx x hx').1)
    have h2 : L.length * (9 * (t + 1)) ≤ 8 * (9 * 2521) := Nat.mul_le_mul hl (by omega)
    omega
  clear hn hl hx hH
  go_enter Try.func40, Try.ntmps40
  go_wp2
  go_loopw [8, 9] (fun sn i wr => ∃ k z : Nat, 1 ≤ k ∧ k ≤ Bu + 1 ∧ z < k ∧ z ≤ m ∧ i = .int .i64 k ∧ sn = .int .i64 z ∧ testFrom L m Bu 1 0 = testFrom L m (Bu + 1 - k) k z ∧ Below w.heap.size w wr) (fun _ i _ => 2521 - (intOf i).toNat)
  case atStart => exact ⟨1, 0, by omega, by omega, by omega, by omega, rfl, rfl, rfl, Below.refl _ _⟩
  case round =>
    obtain ⟨k, z, hk1, hk, hz, hzm0, rfl, rfl, hall, hbel⟩ := hrel
    have HA : Hid (testFrom L m Bu 1 0 = testFrom L m (Bu + 1 - k) k z) := hall
    clear hall
    by_cases hlt : k ≤ Bu
    · have eF : Bu + 1 - k = (Bu + 1 - (k + 1)) + 1 := by omega
      rw [eF] at HA
      have HPk := HP.out k wr (by omega) hbel
      have HWk := fun wx => HW.out k wx (by omega)
      have hwl := HWB.out k (by omega)
      obtain ⟨W, hW⟩ : ∃ W, W = wanted L k := ⟨_, rfl⟩
      rw [← hW] at hwl
      have HE : Hid (W = wanted L k) := hW
      have HW2 : Hid (∀ wx, Below w.heap.size w wx → Calls Try.prog 32 #[.slice ao n cap, .int .i64 k] wx fun e w' => e = .returned (.int .i64 W) ∧ Below wx.heap.size wx w') := by
        intro wx hb; rw [hW]; exact HWk wx hb
      clear hW eF HWk
      cases hp : pointB L k
      · rw [hp] at HPk
        have HP1 : Hid (pointB L k = false) := hp
        clear hp
        go_wp2_with (go_at_call 57; refine HPk.mono ?_; rintro e w1 ⟨rfl, hb1⟩)
        go_roundw
        case rel => exact ⟨k + 1, z, by omega, by omega, by omega, by omega, by go_num, rfl, by rw [HA.out]; exact testFrom_nopoint L m _ k z HP1.out, hbel.trans (hb1.mono hbel.size)⟩
        case measure => simp [intOf]; omega
      · rw [hp] at HPk
        have HP1 : Hid (pointB L k = true) := hp
        clear hp
        by_cases hzm : z = m
        · have hzd : (m : Int) ≤ (z : Int) := by omega
          have HZ : Hid (z = m) := hzm
          clear hzm
          go_wp2_with (go_at_call 57; refine HPk.mono ?_; rintro e w1 ⟨rfl, hb1⟩)
          go_ret2
          exact ⟨ret_pr (by rw [HA.out, testFrom_stop L m _ k z HP1.out HZ.out]), hbel.trans (hb1.mono hbel.size)⟩
        · have hzd : (z : Int) < (m : Int) := by omega
          have HZ : Hid (¬ z = m) := hzm
          clear hzm
          go_wp2_with (go_at_call 57; refine HPk.mono ?_; rintro e w1 ⟨rfl, hb1⟩)
          have hbel1 := hbel.trans (hb1.mono hbel.size)
          have HW3 := HW2.out w1 hbel1
          by_cases hbad : k < W
          · go_wp2_with (go_at_call 32; refine HW3.mono ?_; rintro e w2 ⟨rfl, hb2⟩)
            go_ret2
            exact ⟨ret_pr (by rw [HA.out, testFrom_bad L m _ k z HP1.out HZ.out (by rw [← HE.out]; exact hbad)]), hbel1.trans (hb2.mono hbel1.size)⟩
          · go_wp2_with (go_at_call 32; refine HW3.mono ?_; rintro e w2 ⟨rfl, hb2⟩)
            go_roundw
            case rel => exact ⟨k + 1, z + 1, by omega, by omega, by omega, by omega, by go_num, by go_num, by rw [HA.out]; exact testFrom_go L m _ k z HP1.out HZ.out (by rw [← HE.out]; exact hbad), hbel1.trans (hb2.mono hbel1.size)⟩
            case measure => simp [intOf]; omega
    · have e : Bu + 1 - k = 0 := by omega
      go_wp2
      go_ret2
      exact ⟨ret_pr (by rw [HA.out, e]; rfl), hbel⟩
end Go.Proofs.Ytdhofmnidlhjpab
