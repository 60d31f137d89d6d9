import Derived.Test.YtdhofmnidlhjpabCHeavy
import Derived.Test.YtdhofmnidlhjpabCTasks
import Derived.Test.YtdhofmnidlhjpabRWith
namespace Go.Proofs.Ytdhofmnidlhjpab
open Go.RowKit

theorem blk1c (w : World) (o : Obj) : (w.alloc o).heap[w.heap.size]? = some o := heap_alloc_new w o

set_option maxRecDepth 100000 in
set_option maxHeartbeats 3200000 in
theorem code_without (ao : Option Addr) (n cap : Nat) (l : List Tk) (task : Nat) (w : World) (hn : n = l.length) (hl : l.length ≤ 8) (hx : ∀ x ∈ l, 1 ≤ x.c ∧ x.c ≤ 9 ∧ x.d ≤ 9 ∧ 1 ≤ x.t ∧ x.t ≤ 9) (hH : HoldsA w ao l) :
    Calls Try.prog 42 #[.slice ao n cap, .int .i64 task] w fun e w' => ∃ v, e = .returned v ∧ w'.ownsRow w.heap.size 65 3 v (withC l task 0).length (rowOf (withC l task 0)) ∧ Below w.heap.size w w' := by
  obtain ⟨i0, hi0, hz0, hz1, hz2⟩ := info_parts Try.infoCTask
  have HN : Hid (n = l.length) := hn
  have hn8 : n ≤ 8 := by omega
  clear hn hl
  go_enter Try.func42, Try.ntmps42
  go_wp2
  go_loopw [5, 6] (fun v i wr => ∃ k z : Nat, k ≤ n ∧ i = .int .i64 k ∧ z = (withFrom task 0 (l.take k) 0).length ∧ wr.ownsRow w.heap.size 65 3 v z (rowOf (withFrom task 0 (l.take k) 0)) ∧ Below w.heap.size w wr) (fun _ i _ => n - (intOf i).toNat)
  case atStart => exact ⟨0, 0, Nat.zero_le _, rfl, rfl, World.ownsRow_nil _ _ _ _, Below.refl _ _⟩
  case round =>
    obtain ⟨k, z, hk, rfl, hz, hown, hbel⟩ := hrel
    by_cases hlt : k < n
    · have hkl : k < l.length := by rw [← HN.out]; exact hlt
      have hH2 := HoldsA.later hH hbel
      obtain ⟨b, rfl, hb, h0, h1, h2⟩ := hH2 k hkl
      obtain ⟨fc1, fc, fd, ft1, ft2⟩ := hx _ (List.getElem_mem hkl)
      have hsn := withFrom_snoc l task 0 k hkl
      have hzl := withFrom_length task 0 (l.take k) 0
      have hz8 : z ≤ 8 := by rw [List.length_take] at hzl; omega
      generalize l[k] = x at *
      obtain ⟨xc, d, T⟩ := x
      have HS : Hid (withFrom task 0 (l.take (k + 1)) 0 = withFrom task 0 (l.take k) 0 ++ withFrom task 0 [⟨xc, d, T⟩] k) := hsn
      have HZ : Hid (z = (withFrom task 0 (l.take k) 0).length) := hz
      dsimp only at *
      clear hsn hH hx hH2 hz hzl
      generalize withFrom task 0 (l.take k) 0 = m at *
      have g0 : (0 : Int) ≤ (k : Int) := by omega
      have g1 : (k : Int) < (n : Int) := by omega
      have hsz := hbel.size
      by_cases hkt : k = task
      · have hkd : ((k : Int) != (task : Int)) = false := by simp; omega
        have HW : Hid (withFrom task 0 (l.take (k + 1)) 0 = m) := by unfold Hid; rw [HS.out, with_drop ⟨xc, d, T⟩ task 0 k 0 (by rw [if_pos hkt]) (by omega), List.append_nil]
        clear hkt HS
        go_wp2
        go_roundw
        case rel => exact ⟨k + 1, z, by omega, by go_num, by rw [HW.out]; exact HZ.out, by rw [HW.out]; exact hown, hbel⟩
        case measure => simp [intOf]; omega
      · have hkd : ((k : Int) != (task : Int)) = true := by simp; omega
        have HW : Hid (withFrom task 0 (l.take (k + 1)) 0 = m ++ [⟨xc, d, T⟩]) := by unfold Hid; rw [HS.out, with_keep ⟨xc, d, T⟩ task 0 k xc (by rw [if_neg hkt]) (by omega)]
        clear hkt HS
        go_wp2_with (at_builtin; refine wpList_append_lies _ (by rfl) _ _ _ (by rfl) w.heap.size 65 i0 _ 3 24 Try.underlying36 hi0 hz0 hz1 hz2 rfl (by omega) u5 z _ (by rfl) (hown.alloc _) ⟨wr.heap.size, 0, none⟩ 1 1 [.int .i64 xc, .int .i64 d, .int .i64 T] (by rfl) (by rfl) (World.news_of_block (cs := #[.int .i64 xc, .int .i64 d, .int .i64 T]) (t := 65) (fr := (0, 0)) (blk1c wr _)) (by simp [Value.oneCell']) (by omega) (by unfold maxLen; omega) (by omega) (by simp; omega) (wr.heap.size + 1) (by simp) ?_; intro gg cap w1 hown1 hgrow hat hlt1)
        have hbel1 := Below.grown (hbel.alloc hsz _) hgrow (by simp; omega) (fun q hq => (hown.lt q hq).1)
        go_roundw
        case rel => exact ⟨k + 1, z + 1, by omega, by go_num, by rw [HW.out, List.length_append, ← HZ.out]; rfl, by rw [HW.out]; have := own_keep hown1 HZ.out; rw [List.length_append, ← HZ.out] at this; exact this, hbel1⟩
        case measure => simp [intOf]; omega
    · have e : l.take k = l := List.take_of_length_le (by rw [← HN.out]; omega)
      rw [e] at hz hown
      clear e
      go_wp2
      go_ret
      refine ⟨u5, rfl, ?_, hbel⟩
      unfold withC
      rw [← hz]
      exact hown

set_option maxRecDepth 100000 in
set_option maxHeartbeats 3200000 in
theorem with_work (ao : Option Addr) (n cap : Nat) (l : List Tk) (task c : Nat) (w : World) (hn : n = l.length) (hl : l.length ≤ 8) (hx : ∀ x ∈ l, 1 ≤ x.c ∧ x.c ≤ 9 ∧ x.d ≤ 9 ∧ 1 ≤ x.t ∧ x.t ≤ 9) (hc1 : 1 ≤ c) (hc : c ≤ 9) (hH : HoldsA w ao l) :
    Calls Try.prog 59 #[.slice ao n cap, .int .i64 task, .int .i64 c] w fun e w' => ∃ v, e = .returned v ∧ w'.ownsRow w.heap.size 65 3 v (withC l task c).length (rowOf (withC l task c)) ∧ Below w.heap.size w w' := by
  obtain ⟨i0, hi0, hz0, hz1, hz2⟩ := info_parts Try.infoCTask
  have HN : Hid (n = l.length) := hn
  have hn8 : n ≤ 8 := by omega
  clear hn hl
  go_enter Try.func59, Try.ntmps59
  go_wp2
  go_loopw [7, 8, 9] (fun v i _ wr => ∃ k z : Nat, k ≤ n ∧ i = .int .i64 k ∧ z = (withFrom task c (l.take k) 0).length ∧ wr.ownsRow w.heap.size 65 3 v z (rowOf (withFrom task c (l.take k) 0)) ∧ Below w.heap.size w wr) (fun _ i _ _ => n - (intOf i).toNat)
  case atStart => exact ⟨0, 0, Nat.zero_le _, rfl, rfl, World.ownsRow_nil _ _ _ _, Below.refl _ _⟩
  case round =>
    obtain ⟨k, z, hk, rfl, hz, hown, hbel⟩ := hrel
    by_cases hlt : k < n
    · have hkl : k < l.length := by rw [← HN.out]; exact hlt
      have hH2 := HoldsA.later hH hbel
      obtain ⟨b, rfl, hb, h0, h1, h2⟩ := hH2 k hkl
      obtain ⟨fc1, fc, fd, ft1, ft2⟩ := hx _ (List.getElem_mem hkl)
      have hsn := withFrom_snoc l task c k hkl
      have hzl := withFrom_length task c (l.take k) 0
      have hz8 : z ≤ 8 := by rw [List.length_take] at hzl; omega
      generalize l[k] = x at *
      obtain ⟨xc, d, T⟩ := x
      have HS : Hid (withFrom task c (l.take (k + 1)) 0 = withFrom task c (l.take k) 0 ++ withFrom task c [⟨xc, d, T⟩] k) := hsn
      have HZ : Hid (z = (withFrom task c (l.take k) 0).length) := hz
      dsimp only at *
      clear hsn hH hx hH2 hz hzl
      generalize withFrom task c (l.take k) 0 = m at *
      have g0 : (0 : Int) ≤ (k : Int) := by omega
      have g1 : (k : Int) < (n : Int) := by omega
      have hsz := hbel.size
      by_cases hkt : k = task
      · have hkd : ((k : Int) == (task : Int)) = true := by simp; omega
        have HW : Hid (withFrom task c (l.take (k + 1)) 0 = m ++ [⟨c, d, T⟩]) := by unfold Hid; rw [HS.out, with_keep ⟨xc, d, T⟩ task c k c (by rw [if_pos hkt]) (by omega)]
        clear hkt HS
        go_wp2_with (at_builtin; refine wpList_append_lies _ (by rfl) _ _ _ (by rfl) w.heap.size 65 i0 _ 3 24 Try.underlying36 hi0 hz0 hz1 hz2 rfl (by omega) u7 z _ (by rfl) ((hown.alloc _).alloc _) ⟨wr.heap.size + 1, 0, none⟩ 1 1 [.int .i64 c, .int .i64 d, .int .i64 T] (by rfl) (by rfl) (World.news_of_block (cs := #[.int .i64 c, .int .i64 d, .int .i64 T]) (t := 65) (fr := (0, 0)) (blk2r wr _ _)) (by simp [Value.oneCell']) (by omega) (by unfold maxLen; omega) (by omega) (by simp; omega) (wr.heap.size + 2) (by simp) ?_; intro gg cap w1 hown1 hgrow hat hlt1)
        have hbel1 := Below.grown ((hbel.alloc hsz _).alloc (by simp; omega) _) hgrow (by simp; omega) (fun q hq => (hown.lt q hq).1)
        go_roundw
        case rel => exact ⟨k + 1, z + 1, by omega, by go_num, by rw [HW.out, List.length_append, ← HZ.out]; rfl, by rw [HW.out]; have := own_keep hown1 HZ.out; rw [List.length_append, ← HZ.out] at this; exact this, hbel1⟩
        case measure => simp [intOf]; omega
      · have hkd : ((k : Int) == (task : Int)) = false := by simp; omega
        have HW : Hid (withFrom task c (l.take (k + 1)) 0 = m ++ [⟨xc, d, T⟩]) := by unfold Hid; rw [HS.out, with_keep ⟨xc, d, T⟩ task c k xc (by rw [if_neg hkt]) (by omega)]
        clear hkt HS
        go_wp2_with (at_builtin; refine wpList_append_lies _ (by rfl) _ _ _ (by rfl) w.heap.size 65 i0 _ 3 24 Try.underlying36 hi0 hz0 hz1 hz2 rfl (by omega) u7 z _ (by rfl) ((hown.alloc _).alloc _) ⟨wr.heap.size + 1, 0, none⟩ 1 1 [.int .i64 xc, .int .i64 d, .int .i64 T] (by rfl) (by rfl) (World.news_of_block (cs := #[.int .i64 xc, .int .i64 d, .int .i64 T]) (t := 65) (fr := (0, 0)) (blk2r wr _ _)) (by simp [Value.oneCell']) (by omega) (by unfold maxLen; omega) (by omega) (by simp; omega) (wr.heap.size + 2) (by simp) ?_; intro gg cap w1 hown1 hgrow hat hlt1)
        have hbel1 := Below.grown ((hbel.alloc hsz _).alloc (by simp; omega) _) hgrow (by simp; omega) (fun q hq => (hown.lt q hq).1)
        go_roundw
        case rel => exact ⟨k + 1, z + 1, by omega, by go_num, by rw [HW.out, List.length_append, ← HZ.out]; rfl, by rw [HW.out]; have := own_keep hown1 HZ.out; rw [List.length_append, ← HZ.out] at this; exact this, hbel1⟩
        case measure => simp [intOf]; omega
    · have e : l.take k = l := List.take_of_length_le (by rw [← HN.out]; omega)
      rw [e] at hz hown
      clear e
      go_wp2
      go_ret
      refine ⟨u7, rfl, ?_, hbel⟩
      unfold withC
      rw [← hz]
      exact hown
end Go.Proofs.Ytdhofmnidlhjpab

namespace Go.Proofs.Ytdhofmnidlhjpab
open Go.RowKit

/-- The tasks with other work, and the first time of what comes of it. -/
def withWOk (L : List Tk) (ao : Option Addr) (n cap task : Nat) (w2 : World) : Prop :=
  ∀ (c : Nat) (wx : World), 1 ≤ c → c ≤ 9 → Below w2.heap.size w2 wx → Calls Try.prog 59 #[.slice ao n cap, .int .i64 task, .int .i64 c] wx fun e w' => ∃ ao' cap', e = .returned (.slice ao' (withC L task c).length cap') ∧ HoldsA w' ao' (withC L task c) ∧ Below wx.heap.size wx w'
def lateWOk (L : List Tk) (task : Nat) : Prop :=
  ∀ (c : Nat) (ao : Option Addr) (cap : Nat) (wx : World), c ≤ 9 → HoldsA wx ao (withC L task c) → Calls Try.prog 13 #[.slice ao (withC L task c).length cap] wx fun e w' => e = .returned (.int .i64 (tooOf (withC L task c))) ∧ Below wx.heap.size wx w'

set_option maxRecDepth 100000 in
set_option maxHeartbeats 1600000 in
theorem most_work (ao : Option Addr) (n cap : Nat) (L : List Tk) (m D : Nat) (w : World) (hn : n = L.length) (hl : L.length ≤ 8) (hx1 : ∀ x ∈ L, 1 ≤ x.c ∧ x.c ≤ 9 ∧ x.d ≤ 9 ∧ 1 ≤ x.t ∧ x.t ≤ 9) (hD : D ≤ 9) (hH : HoldsA w ao L) :
    Calls Try.prog 43 #[.slice ao n cap, .int .i64 m, .int .i64 D] w fun e w' => e = .returned (.int .i64 (roomFrom L m D)) ∧ Below w.heap.size w w' := by
  have hx : ∀ x ∈ L, x.c ≤ 9 ∧ x.d ≤ 9 ∧ 1 ≤ x.t ∧ x.t ≤ 9 := fun x h => (hx1 x h).2
  have HWi : withWOk L ao n cap m w := by
    intro c wx hc1 hc hb
    refine (with_work ao n cap L m c wx hn hl hx1 hc1 hc (hH.later hb)).mono ?_
    rintro e w' ⟨v, rfl, hown, hb'⟩
    obtain ⟨ao', cap', rfl, hH'⟩ := holds_of_owns hown
    exact ⟨ao', cap', rfl, hH', hb'⟩
  have HF : lateWOk L m := fun c ao cap wx hc hH =>
    first_late ao _ cap _ wx rfl (with_bounds _ m c hl hx hc).1 (with_bounds _ m c hl hx hc).2 hH
  clear hn hl hx hH hx1
  go_enter Try.func43, Try.ntmps43
  go_wp2
  go_loopw [7, 8] (fun i _ wr => ∃ k : Nat, k ≤ 9 ∧ i = .int .i64 k ∧ roomFrom L m D = roomFrom L m k ∧ Below w.heap.size w wr) (fun i _ _ => (intOf i).toNat)
  case atStart => exact ⟨D, hD, rfl, rfl, Below.refl _ _⟩
  case round =>
    obtain ⟨k, hk, rfl, hall, hbr⟩ := hrel
    have HA : Hid (roomFrom L m D = roomFrom L m k) := hall
    clear hall
    cases k with
    | zero =>
      go_wp2
      go_ret
      exact ⟨ret_int (by rw [HA.out]; rfl), hbr⟩
    | succ k =>
      have HWk := HWi (k + 1) wr (by omega) hk hbr
      have hkp : (1 : Int) ≤ ((k + 1 : Nat) : Int) := by omega
      have HFk := HF (k + 1)
      have hhit := roomFrom_hit L m k
      have hmiss := roomFrom_miss L m k
      generalize withC L m (k + 1) = Z at *
      have H1 : Hid (feasB Z = true → roomFrom L m (k + 1) = k + 1) := hhit
      have H2 : Hid (feasB Z = false → roomFrom L m (k + 1) = roomFrom L m k) := hmiss
      clear hhit hmiss
      go_wp2_with fail
      refine HWk.mono ?_
      rintro e w5 ⟨ao5, cap5, rfl, hH5, hb5⟩
      have HF5 := HFk ao5 cap5 w5 hk hH5
      have hb5' := hbr.trans (hb5.mono hbr.size)
      generalize Z.length = zn at *
      cases hz : feasB Z
      · obtain ⟨q1, q2, q3⟩ := late_not Z hz
        have HZ : Hid (feasB Z = false) := hz
        generalize tooOf Z = q at *
        have hq : ((q : Int) == 0) = false := by simp; omega
        clear hz hH5 HFk HWk q3
        go_wp2_with fail
        refine HF5.mono ?_
        rintro e w6 ⟨rfl, hb6⟩
        go_wp2
        go_roundw
        case rel => exact ⟨k, by omega, by go_num, by rw [HA.out]; exact H2.out HZ.out, hb5'.trans (hb6.mono hb5'.size)⟩
        case measure => simp [intOf]
      · have HZ : Hid (feasB Z = true) := hz
        rw [late_feas Z hz] at HF5
        clear hz hH5 HFk HWk
        go_wp2_with fail
        refine HF5.mono ?_
        rintro e w6 ⟨rfl, hb6⟩
        go_wp2
        go_ret
        exact ⟨ret_int (by rw [HA.out, H1.out HZ.out]; omega), hb5'.trans (hb6.mono hb5'.size)⟩
end Go.Proofs.Ytdhofmnidlhjpab
