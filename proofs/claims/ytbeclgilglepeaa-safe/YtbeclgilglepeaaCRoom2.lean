import Derived.Test.YtbeclgilglepeaaCRoom
namespace Go.Proofs.Ytbeclgilglepeaa
open Go.RowKit

/-- The tasks with other work, and the first time of what comes of it. -/
def withWOk (L : List Tk) (ao : Option Addr) (n cap task : Nat) (w2 : World) : Prop :=
  ∀ (c : Nat) (wx : World), 1 ≤ c → c ≤ 9 → Below w2.heap.size w2 wx → Calls Try.prog 63 #[.slice ao n cap, .int .i64 task, .int .i64 c] wx fun e w' => ∃ ao' cap', e = .returned (.slice ao' (withC L task c).length cap') ∧ HoldsA w' ao' (withC L task c) ∧ Below wx.heap.size wx w'
def lateWOk (L : List Tk) (task : Nat) : Prop :=
  ∀ (c : Nat) (ao : Option Addr) (cap : Nat) (wx : World), c ≤ 9 → HoldsA wx ao (withC L task c) → Calls Try.prog 42 #[.slice ao (withC L task c).length cap] wx fun e w' => e = .returned (.int .i64 (tooOf (withC L task c))) ∧ Below wx.heap.size wx w'

set_option maxRecDepth 100000 in
set_option maxHeartbeats 1600000 in
theorem most_work (ao : Option Addr) (n cap : Nat) (L : List Tk) (m D : Nat) (w : World) (hn : n = L.length) (hl : L.length ≤ 8) (hx1 : ∀ x ∈ L, 1 ≤ x.c ∧ x.c ≤ 9 ∧ x.d ≤ 9 ∧ 1 ≤ x.t ∧ x.t ≤ 9) (hD : D ≤ 9) (hH : HoldsA w ao L) :
    Calls Try.prog 45 #[.slice ao n cap, .int .i64 m, .int .i64 D] w fun e w' => e = .returned (.int .i64 (roomFrom L m D)) ∧ Below w.heap.size w w' := by
  have hx : ∀ x ∈ L, x.c ≤ 9 ∧ x.d ≤ 9 ∧ 1 ≤ x.t ∧ x.t ≤ 9 := fun x h => (hx1 x h).2
  have HWi : withWOk L ao n cap m w := by
    intro c wx hc1 hc hb
    refine (with_work ao n cap L m c wx hn hl hx1 hc1 hc (hH.later hb)).mono ?_
    rintro e w' ⟨v, rfl, hown, hb'⟩
    obtain ⟨ao', cap', rfl, hH'⟩ := holds_of_owns hown
    exact ⟨ao', cap', rfl, hH', hb'⟩
  have HF : lateWOk L m := fun c ao cap wx hc hH =>
    first_late ao _ cap _ wx rfl (with_bounds _ m c hl hx hc).1 (with_bounds _ m c hl hx hc).2 hH
  clear hn hl hx hH hx1
  go_enter Try.func45, Try.ntmps45
  go_wp2
  go_loopw [7, 8] (fun i _ wr => ∃ k : Nat, k ≤ 9 ∧ i = .int .i64 k ∧ roomFrom L m D = roomFrom L m k ∧ Below w.heap.size w wr) (fun i _ _ => (intOf i).toNat)
  case atStart => exact ⟨D, hD, rfl, rfl, Below.refl _ _⟩
  case round =>
    obtain ⟨k, hk, rfl, hall, hbr⟩ := hrel
    have HA : Hid (roomFrom L m D = roomFrom L m k) := hall
    clear hall
    cases k with
    | zero =>
      go_wp2
      go_ret
      exact ⟨ret_int (by rw [HA.out]; rfl), hbr⟩
    | succ k =>
      have HWk := HWi (k + 1) wr (by omega) hk hbr
      have hkp : (1 : Int) ≤ ((k + 1 : Nat) : Int) := by omega
      have HFk := HF (k + 1)
      have hhit := roomFrom_hit L m k
      have hmiss := roomFrom_miss L m k
      generalize withC L m (k + 1) = Z at *
      have H1 : Hid (feasB Z = true → roomFrom L m (k + 1) = k + 1) := hhit
      have H2 : Hid (feasB Z = false → roomFrom L m (k + 1) = roomFrom L m k) := hmiss
      clear hhit hmiss
      go_wp2_with fail
      refine HWk.mono ?_
      rintro e w5 ⟨ao5, cap5, rfl, hH5, hb5⟩
      have HF5 := HFk ao5 cap5 w5 hk hH5
      have hb5' := hbr.trans (hb5.mono hbr.size)
      generalize Z.length = zn at *
      cases hz : feasB Z
      · obtain ⟨q1, q2, q3⟩ := late_not Z hz
        have HZ : Hid (feasB Z = false) := hz
        generalize tooOf Z = q at *
        have hq : ((q : Int) == 0) = false := by simp; omega
        clear hz hH5 HFk HWk q3
        go_wp2_with fail
        refine HF5.mono ?_
        rintro e w6 ⟨rfl, hb6⟩
        go_wp2
        go_roundw
        case rel => exact ⟨k, by omega, by go_num, by rw [HA.out]; exact H2.out HZ.out, hb5'.trans (hb6.mono hb5'.size)⟩
        case measure => simp [intOf]
      · have HZ : Hid (feasB Z = true) := hz
        rw [late_feas Z hz] at HF5
        clear hz hH5 HFk HWk
        go_wp2_with fail
        refine HF5.mono ?_
        rintro e w6 ⟨rfl, hb6⟩
        go_wp2
        go_ret
        exact ⟨ret_int (by rw [HA.out, H1.out HZ.out]; omega), hb5'.trans (hb6.mono hb5'.size)⟩
end Go.Proofs.Ytbeclgilglepeaa
