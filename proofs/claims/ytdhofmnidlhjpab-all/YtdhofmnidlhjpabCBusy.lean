import Derived.Test.YtdhofmnidlhjpabCRead
import Derived.Test.YtdhofmnidlhjpabRBusy
namespace Go.Proofs.Ytdhofmnidlhjpab
open Go.RowKit

theorem jobs_facts (T w : Nat) (hT1 : 1 ≤ T) (hT : T ≤ 9) (hw : w ≤ 2520) :
    0 ≤ ((w : Int) + T - 1) / T ∧ ((w : Int) + T - 1) / T ≤ 2530 ∧ ((w : Int) + T - 1) / T = (((w + T - 1) / T : Nat) : Int) ∧ (w + T - 1) / T ≤ 2529 := by
  have e0 : (w : Int) + T - 1 = ((w + T - 1 : Nat) : Int) := by omega
  have e1 : ((w : Int) + T - 1) / T = (((w + T - 1) / T : Nat) : Int) := by rw [e0, Int.natCast_ediv]
  have h1 : (w + T - 1) / T ≤ w + T - 1 := Nat.div_le_self _ _
  rw [e1]
  generalize (w + T - 1) / T = q at *
  refine ⟨by omega, by omega, rfl, by omega⟩

set_option maxRecDepth 100000 in
set_option maxHeartbeats 1600000 in
theorem jobs_before (c d T t : Nat) (w : World) (hT : 1 ≤ T) (hT9 : T ≤ 9) (ht : t ≤ 2520) :
    Calls Try.prog 70 #[.agg #[.int .i64 c, .int .i64 d, .int .i64 T], .int .i64 t] w fun e w' => e = .returned (.int .i64 (((t + T - 1) / T : Nat) : Int)) ∧ Below w.heap.size w w' := by
  obtain ⟨p1, p2, p3, _⟩ := jobs_facts T t hT hT9 ht
  have P3 : Hid (((t : Int) + T - 1) / T = (((t + T - 1) / T : Nat) : Int)) := p3
  clear p3
  go_enter Try.func70, Try.ntmps70
  go_wp2
  go_ret
  exact ⟨ret_int P3.out, (Below.refl _ _).alloc (Nat.le_refl _) _⟩

set_option maxRecDepth 100000 in
set_option maxHeartbeats 1600000 in
theorem come_before (ao : Option Addr) (n cap : Nat) (l : List Tk) (t : Nat) (w : World) (hn : n = l.length) (hl : l.length ≤ 8) (hx : ∀ x ∈ l, x.c ≤ 9 ∧ x.d ≤ 9 ∧ 1 ≤ x.t ∧ x.t ≤ 9) (ht : t ≤ 2520) (hH : HoldsA w ao l) :
    Calls Try.prog 56 #[.slice ao n cap, .int .i64 t] w fun e w' => e = .returned (.int .i64 (come l t)) ∧ Below w.heap.size w w' := by
  have HN : Hid (n = l.length) := hn
  have hn8 : n ≤ 8 := by omega
  clear hn hl
  go_enter Try.func56, Try.ntmps56
  go_wp2
  go_loopw [5, 6] (fun s i wr => ∃ k : Nat, k ≤ n ∧ i = .int .i64 k ∧ s = .int .i64 (come (l.take k) t : Nat) ∧ Below w.heap.size w wr) (fun _ i _ => n - (intOf i).toNat)
  case atStart => exact ⟨0, Nat.zero_le _, rfl, by simp [come], Below.refl _ _⟩
  case round =>
    obtain ⟨k, hk, rfl, rfl, hbel⟩ := hrel
    by_cases hlt : k < n
    · have hkl : k < l.length := by rw [← HN.out]; exact hlt
      have hH2 := HoldsA.later hH hbel
      obtain ⟨b, rfl, hb, h0, h1, h2⟩ := hH2 k hkl
      have hb2 := come_le (l.take k) t (fun x hx' => ⟨(hx x (List.mem_of_mem_take hx')).1, (hx x (List.mem_of_mem_take hx')).2.2.2⟩)
      have hb3 : (l.take k).length * (9 * (t + 9)) ≤ 8 * (9 * 2529) := Nat.mul_le_mul (by rw [List.length_take]; omega) (by omega)
      have hsn := come_snoc l k hkl t
      obtain ⟨fc, fd, ft1, ft2⟩ := hx _ (List.getElem_mem hkl)
      generalize l[k] = x at *
      obtain ⟨c, d, T⟩ := x
      have hct := fun w => jobs_before c d T t w ft1 ft2 ht
      have hpl := (jobs_facts T t ft1 ft2 ht).2.2.2
      unfold comeOne at hsn
      dsimp only at *
      generalize (t + T - 1) / T = P at *
      have HC : Hid (∀ w : World, Calls Try.prog 70 #[.agg #[.int .i64 c, .int .i64 d, .int .i64 T], .int .i64 t] w fun e w' => e = .returned (.int .i64 P) ∧ Below w.heap.size w w') := hct
      obtain ⟨Q, hQ⟩ : ∃ Q, Q = c * P := ⟨_, rfl⟩
      rw [← hQ] at hsn
      have hq : (P : Int) * (c : Int) = (Q : Int) := by rw [hQ, Int.natCast_mul, Int.mul_comm]
      have hQb : Q ≤ 22761 := by rw [hQ]; exact Nat.mul_le_mul fc hpl
      generalize hS : come (l.take k) t = S at *
      generalize hS' : come (l.take (k + 1)) t = S' at *
      have HS : Hid (come (l.take (k + 1)) t = S') := hS'
      have HX : Hid (S' = S + Q) := hsn
      clear hS hsn hS' hH hx hct hH2 hQ
      have g0 : (0 : Int) ≤ (k : Int) := by omega
      have g1 : (k : Int) < (n : Int) := by omega
      have ew1 : IntKind.i64.wrap (Q : Int) = (Q : Int) := IntWalk.i64_in _ (by omega)
      have ew2 : IntKind.i64.wrap ((S : Int) + (Q : Int)) = (S : Int) + (Q : Int) := IntWalk.i64_in _ (by omega)
      go_wp2_with fail
      go_region_held3 (fun w' => w'.cell? ⟨b, k * 3, none⟩ = some (.int .i64 c) ∧ w'.cell? ⟨b, k * 3 + 1, none⟩ = some (.int .i64 d) ∧ w'.cell? ⟨b, k * 3 + 2, none⟩ = some (.int .i64 T))
        (first | go_keep | (go_split_ands; refine ⟨?_, ?_, ?_⟩ <;> (rw [hb1.cell (by simpa using hb)]; simpa using ‹_›)))
        ((go_at_call 70; refine (HC.out _).mono ?_; rintro e w1 ⟨rfl, hb1⟩))
      go_wp2
      go_roundw
      case rel => exact ⟨k + 1, by omega, by go_num, by rw [HS.out, HX.out]; go_num, hbel.drew.trans (hb1.mono hbel.size)⟩
      case measure => simp [intOf]; omega
    · go_wp2
      go_ret
      exact ⟨ret_int (by rw [List.take_of_length_le (by rw [← HN.out]; omega)]), hbel⟩

set_option maxRecDepth 100000 in
set_option maxHeartbeats 1600000 in
theorem busy_time (ao : Option Addr) (n cap : Nat) (l : List Tk) (w : World) (hn : n = l.length) (hl : l.length ≤ 8) (hx : ∀ x ∈ l, x.c ≤ 9 ∧ x.d ≤ 9 ∧ 1 ≤ x.t ∧ x.t ≤ 9) (hH : HoldsA w ao l) :
    Calls Try.prog 39 #[.slice ao n cap] w fun e w' => e = .returned (.int .i64 (busyOf l)) ∧ Below w.heap.size w w' := by
  have HW : Hid (∀ (t : Nat) (wx : World), t ≤ 2520 → Below w.heap.size w wx → Calls Try.prog 56 #[.slice ao n cap, .int .i64 t] wx fun e w' => e = .returned (.int .i64 (come l t)) ∧ Below wx.heap.size wx w') :=
    fun t wx ht hb => come_before ao n cap l t wx hn hl hx ht (hH.later hb)
  clear hn hl hx hH
  go_enter Try.func39, Try.ntmps39
  go_wp2
  go_loopw [3, 4] (fun i _ wr => ∃ k : Nat, 1 ≤ k ∧ k ≤ 2520 ∧ i = .int .i64 k ∧ busyOf l = busyFrom l (2520 - k) k ∧ Below w.heap.size w wr) (fun i _ _ => 2521 - (intOf i).toNat)
  case atStart => exact ⟨1, by omega, by omega, rfl, rfl, Below.refl _ _⟩
  case round =>
    obtain ⟨k, hk1, hk, rfl, hall, hbel⟩ := hrel
    have HA : Hid (busyOf l = busyFrom l (2520 - k) k) := hall
    clear hall
    by_cases hlt : k < 2520
    · have HWk := HW.out k wr (by omega) hbel
      obtain ⟨W, hW⟩ : ∃ W, W = come l k := ⟨_, rfl⟩
      rw [← hW] at HWk
      have HE : Hid (W = come l k) := hW
      clear hW
      by_cases hhit : W = k
      · have hd : ((W : Int) == (k : Int)) = true := by simp; omega
        have HH : Hid (W = k) := hhit
        clear hhit
        go_wp2_with (go_at_call 56; refine HWk.mono ?_; rintro e w1 ⟨rfl, hb1⟩)
        go_ret
        exact ⟨ret_int (by rw [HA.out, busyFrom_hit l _ k (by rw [← HE.out, HH.out])]), hbel.trans (hb1.mono hbel.size)⟩
      · have hd : ((W : Int) == (k : Int)) = false := by simp; omega
        have HH : Hid (¬ W = k) := hhit
        clear hhit
        go_wp2_with (go_at_call 56; refine HWk.mono ?_; rintro e w1 ⟨rfl, hb1⟩)
        go_roundw
        case rel =>
          refine ⟨k + 1, by omega, by omega, by go_num, ?_, hbel.trans (hb1.mono hbel.size)⟩
          rw [HA.out, show 2520 - k = (2520 - (k + 1)) + 1 by omega, busyFrom_miss l _ k (by rw [← HE.out]; exact HH.out)]
        case measure => simp [intOf]; omega
    · go_wp2
      go_ret
      have e : k = 2520 := by omega
      exact ⟨ret_int (by rw [HA.out, e]; rfl), hbel⟩
end Go.Proofs.Ytdhofmnidlhjpab
