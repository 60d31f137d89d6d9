import Derived.Test.YtdhofmnidlhjpabRTest
import Derived.Deep.AppendLies
namespace Go.Proofs.Ytdhofmnidlhjpab
open Go.RowKit

theorem blk2r (w : World) (o o' : Obj) : ((w.alloc o).alloc o').heap[w.heap.size + 1]? = some o' := by
  have := heap_alloc_new (w.alloc o) o'
  rw [World.size_alloc] at this
  exact this

theorem withFrom_snoc (l : List Tk) (task c k : Nat) (h : k < l.length) : withFrom task c (l.take (k + 1)) 0 = withFrom task c (l.take k) 0 ++ withFrom task c [l[k]] k := by
  rw [List.take_succ_eq_append_getElem h, withFrom_append, List.length_take, Nat.min_eq_left (by omega), Nat.zero_add]

theorem with_keep (x : Tk) (task c k : Nat) (C : Nat) (hC : (if k = task then c else x.c) = C) (h : 0 < C) : withFrom task c [x] k = [⟨C, x.d, x.t⟩] := by
  simp only [withFrom]; rw [hC, if_pos h]
theorem with_drop (x : Tk) (task c k : Nat) (C : Nat) (hC : (if k = task then c else x.c) = C) (h : ¬ 0 < C) : withFrom task c [x] k = [] := by
  simp only [withFrom]; rw [hC, if_neg h]

theorem own_keep {w : World} {B e n : Nat} {v : Value} {m : List Tk} {C d T : Nat} (h : w.ownsRow B e 3 v (n + 1) (rowOf m ++ [.int .i64 C, .int .i64 d, .int .i64 T])) (hn : n = m.length) :
    w.ownsRow B e 3 v (m ++ [(⟨C, d, T⟩ : Tk)]).length (rowOf (m ++ [(⟨C, d, T⟩ : Tk)])) := by
  rw [rowOf_append, List.length_append, ← hn]
  exact h

set_option maxRecDepth 100000 in
set_option maxHeartbeats 3200000 in
theorem ref_with (ao : Option Addr) (n cap : Nat) (l : List Tk) (task c : Nat) (w : World) (hn : n = l.length) (hl : l.length ≤ 8) (hx : ∀ x ∈ l, x.c ≤ 9 ∧ x.d ≤ 9 ∧ 1 ≤ x.t ∧ x.t ≤ 9) (hc : c ≤ 9) (hH : HoldsA w ao l) :
    Calls Try.prog 67 #[.slice ao n cap, .int .i64 task, .int .i64 c] w fun e w' => ∃ v, e = .returned v ∧ w'.ownsRow w.heap.size 68 3 v (withC l task c).length (rowOf (withC l task c)) ∧ Below w.heap.size w w' := by
  obtain ⟨i0, hi0, hz0, hz1, hz2⟩ := info_parts Try.infoTask
  have HN : Hid (n = l.length) := hn
  have hn8 : n ≤ 8 := by omega
  clear hn hl
  go_enter Try.func67, Try.ntmps67
  go_wp2
  go_loopw [7, 8, 9] (fun v i _ wr => ∃ k z : Nat, k ≤ n ∧ i = .int .i64 k ∧ z = (withFrom task c (l.take k) 0).length ∧ wr.ownsRow w.heap.size 68 3 v z (rowOf (withFrom task c (l.take k) 0)) ∧ Below w.heap.size w wr) (fun _ i _ _ => n - (intOf i).toNat)
  case atStart => exact ⟨0, 0, Nat.zero_le _, rfl, rfl, World.ownsRow_nil _ _ _ _, Below.refl _ _⟩
  case round =>
    obtain ⟨k, z, hk, rfl, hz, hown, hbel⟩ := hrel
    by_cases hlt : k < n
    · have hkl : k < l.length := by rw [← HN.out]; exact hlt
      have hH2 := HoldsA.later hH hbel
      obtain ⟨b, rfl, hb, h0, h1, h2⟩ := hH2 k hkl
      obtain ⟨fc, fd, ft1, ft2⟩ := hx _ (List.getElem_mem hkl)
      have hsn := withFrom_snoc l task c k hkl
      have hzl := withFrom_length task c (l.take k) 0
      have hz8 : z ≤ 8 := by rw [List.length_take] at hzl; omega
      generalize l[k] = x at *
      obtain ⟨xc, d, T⟩ := x
      have HS : Hid (withFrom task c (l.take (k + 1)) 0 = withFrom task c (l.take k) 0 ++ withFrom task c [⟨xc, d, T⟩] k) := hsn
      have HZ : Hid (z = (withFrom task c (l.take k) 0).length) := hz
      dsimp only at *
      clear hsn hH hx hH2 hz hzl
      generalize withFrom task c (l.take k) 0 = m at *
      have g0 : (0 : Int) ≤ (k : Int) := by omega
      have g1 : (k : Int) < (n : Int) := by omega
      have hsz := hbel.size
      obtain ⟨C, hC⟩ : ∃ C, (if k = task then c else xc) = C := ⟨_, rfl⟩
      have hCb : C ≤ 9 := by rw [← hC]; split <;> omega
      have HCC : Hid ((if k = task then c else xc) = C) := hC
      by_cases hpos : 0 < C
      · have HW : Hid (withFrom task c (l.take (k + 1)) 0 = m ++ [⟨C, d, T⟩]) := by unfold Hid; rw [HS.out, with_keep ⟨xc, d, T⟩ task c k C HCC.out hpos]
        by_cases hkt : k = task
        · have hkd : ((k : Int) == (task : Int)) = true := by simp; omega
          rw [if_pos hkt] at hC
          subst hC
          clear hkt HCC HS
          go_wp2_with (at_builtin; refine wpList_append_lies _ (by rfl) _ _ _ (by rfl) w.heap.size 68 i0 _ 3 24 Try.underlying44 hi0 hz0 hz1 hz2 rfl (by omega) u7 z _ (by rfl) ((hown.alloc _).alloc _) ⟨wr.heap.size + 1, 0, none⟩ 1 1 [.int .i64 c, .int .i64 d, .int .i64 T] (by rfl) (by rfl) (World.news_of_block (cs := #[.int .i64 c, .int .i64 d, .int .i64 T]) (t := 68) (fr := (0, 0)) (blk2r wr _ _)) (by simp [Value.oneCell']) (by omega) (by unfold maxLen; omega) (by omega) (by simp; omega) (wr.heap.size + 2) (by simp) ?_; intro gg cap w1 hown1 hgrow hat hlt1)
          have hbel1 := Below.grown ((hbel.alloc hsz _).alloc (by simp; omega) _) hgrow (by simp; omega) (fun q hq => (hown.lt q hq).1)
          go_roundw
          case rel => exact ⟨k + 1, z + 1, by omega, by go_num, by rw [HW.out, List.length_append, ← HZ.out]; rfl, by rw [HW.out]; have := own_keep hown1 HZ.out; rw [List.length_append, ← HZ.out] at this; exact this, hbel1⟩
          case measure => simp [intOf]; omega
        · have hkd : ((k : Int) == (task : Int)) = false := by simp; omega
          rw [if_neg hkt] at hC
          subst hC
          clear hkt HCC HS
          go_wp2_with (at_builtin; refine wpList_append_lies _ (by rfl) _ _ _ (by rfl) w.heap.size 68 i0 _ 3 24 Try.underlying44 hi0 hz0 hz1 hz2 rfl (by omega) u7 z _ (by rfl) ((hown.alloc _).alloc _) ⟨wr.heap.size + 1, 0, none⟩ 1 1 [.int .i64 xc, .int .i64 d, .int .i64 T] (by rfl) (by rfl) (World.news_of_block (cs := #[.int .i64 xc, .int .i64 d, .int .i64 T]) (t := 68) (fr := (0, 0)) (blk2r wr _ _)) (by simp [Value.oneCell']) (by omega) (by unfold maxLen; omega) (by omega) (by simp; omega) (wr.heap.size + 2) (by simp) ?_; intro gg cap w1 hown1 hgrow hat hlt1)
          have hbel1 := Below.grown ((hbel.alloc hsz _).alloc (by simp; omega) _) hgrow (by simp; omega) (fun q hq => (hown.lt q hq).1)
          go_roundw
          case rel => exact ⟨k + 1, z + 1, by omega, by go_num, by rw [HW.out, List.length_append, ← HZ.out]; rfl, by rw [HW.out]; have := own_keep hown1 HZ.out; rw [List.length_append, ← HZ.out] at this; exact this, hbel1⟩
          case measure => simp [intOf]; omega
      · have HW : Hid (withFrom task c (l.take (k + 1)) 0 = m) := by unfold Hid; rw [HS.out, with_drop ⟨xc, d, T⟩ task c k C HCC.out hpos, List.append_nil]
        have hC0 : C = 0 := by omega
        by_cases hkt : k = task
        · have hkd : ((k : Int) == (task : Int)) = true := by simp; omega
          rw [if_pos hkt, hC0] at hC
          subst hC
          clear hkt HCC HS hpos
          go_wp2
          go_roundw
          case rel => exact ⟨k + 1, z, by omega, by go_num, by rw [HW.out]; exact HZ.out, by rw [HW.out]; exact hown.alloc _, hbel.alloc hsz _⟩
          case measure => simp [intOf]; omega
        · have hkd : ((k : Int) == (task : Int)) = false := by simp; omega
          rw [if_neg hkt, hC0] at hC
          subst hC
          clear hkt HCC HS hpos
          go_wp2
          go_roundw
          case rel => exact ⟨k + 1, z, by omega, by go_num, by rw [HW.out]; exact HZ.out, by rw [HW.out]; exact hown.alloc _, hbel.alloc hsz _⟩
          case measure => simp [intOf]; omega
    · have e : l.take k = l := List.take_of_length_le (by rw [← HN.out]; omega)
      rw [e] at hz hown
      clear e
      go_wp2
      go_ret
      refine ⟨u7, rfl, ?_, hbel⟩
      unfold withC
      rw [← hz]
      exact hown
end Go.Proofs.Ytdhofmnidlhjpab

namespace Go.Proofs.Ytdhofmnidlhjpab
open Go.RowKit

/-- Room's two answers. -/
def roomAns (l : List UInt8) (task : Int) : Int × Int :=
  if (checkOf l).1 ≠ 0 then (0, (checkOf l).1) else
  if task < 0 ∨ ((tasksOf l).length : Int) ≤ task then (0, 4) else
  if feasB (withC (tasksOf l) task.toNat 0) = false then (0, 6) else
  ((roomFrom (tasksOf l) task.toNat ((tasksOf l).getD task.toNat ⟨0, 0, 0⟩).d : Nat), 0)

theorem with_bounds (l : List Tk) (task c : Nat) (hl : l.length ≤ 8) (hx : ∀ x ∈ l, x.c ≤ 9 ∧ x.d ≤ 9 ∧ 1 ≤ x.t ∧ x.t ≤ 9) (hc : c ≤ 9) :
    (withC l task c).length ≤ 8 ∧ ∀ x ∈ withC l task c, x.c ≤ 9 ∧ x.d ≤ 9 ∧ 1 ≤ x.t ∧ x.t ≤ 9 := by
  refine ⟨Nat.le_trans (withFrom_length task c l 0) hl, fun y hy => ?_⟩
  obtain ⟨x, hxm, h1, h2, h3, h4⟩ := withFrom_mem task c l 0 y hy
  have := hx x hxm
  omega

theorem roomFrom_hit (l : List Tk) (task c : Nat) (h : feasB (withC l task (c + 1)) = true) : roomFrom l task (c + 1) = c + 1 := by rw [roomFrom, if_pos h]
theorem roomFrom_miss (l : List Tk) (task c : Nat) (h : feasB (withC l task (c + 1)) = false) : roomFrom l task (c + 1) = roomFrom l task c := by rw [roomFrom, if_neg (by simp [h])]

/-- 'with', and then 'feasible' of what it makes. -/
def withOk (L : List Tk) (ao : Option Addr) (n cap task : Nat) (w2 : World) : Prop :=
  ∀ (c : Nat) (wx : World), c ≤ 9 → Below w2.heap.size w2 wx → Calls Try.prog 67 #[.slice ao n cap, .int .i64 task, .int .i64 c] wx fun e w' => ∃ ao' cap', e = .returned (.slice ao' (withC L task c).length cap') ∧ HoldsA w' ao' (withC L task c) ∧ Below wx.heap.size wx w'
def feasOk (L : List Tk) (task : Nat) : Prop :=
  ∀ (c : Nat) (ao : Option Addr) (cap : Nat) (wx : World), c ≤ 9 → HoldsA wx ao (withC L task c) → Calls Try.prog 17 #[.slice ao (withC L task c).length cap] wx fun e w' => e = .returned (.bool (feasB (withC L task c))) ∧ ∃ q, w' = wx.drewN q

set_option maxRecDepth 100000 in
set_option maxHeartbeats 1600000 in
theorem ref_Room (s : ByteArray) (task : Int) (w : World) (hs : s.size ≤ maxLen) (ht0 : -9223372036854775808 ≤ task) (ht1 : task ≤ 9223372036854775807) :
    Calls Try.prog 48 #[.string s, .int .i64 task] w fun e w' => e = .returned (.tuple #[.int .i64 (roomAns s.data.toList task).1, .int .i64 (roomAns s.data.toList task).2]) ∧ Below w.heap.size w w' := by
  by_cases h1 : (checkOf s.data.toList).1 = 0
  · have hn8 := (set_facts _ h1).2.1
    have hx := set_bounds _ h1
    have HC := fun w => ref_check_ok s w hs h1
    have HK := fun w => ref_tasks_ok s w h1
    by_cases h2 : task < 0 ∨ ((tasksOf s.data.toList).length : Int) ≤ task
    · have HD : Hid (roomAns s.data.toList task = (0, 4)) := by unfold Hid roomAns; rw [if_neg (by simp [h1]), if_pos h2]
      generalize tasksOf s.data.toList = L at *
      clear h1
      obtain ⟨n, hn⟩ : ∃ n, n = L.length := ⟨_, rfl⟩
      rw [← hn] at h2 HK
      clear hn
      by_cases h3 : task < 0
      · clear h2
        go_enter Try.func48, Try.ntmps48
        go_wp2_with fail
        refine (HC _).mono ?_
        rintro e w1 ⟨rfl, hb1⟩
        go_wp2_with fail
        refine (HK _).mono ?_
        rintro e w2 ⟨ao, cap, rfl, hH, hb2⟩
        go_wp2
        go_ret2
        exact ⟨ret_pair HD.out, hb1.trans (hb2.mono hb1.size)⟩
      · have h2' : (n : Int) ≤ task := by omega
        clear h2
        go_enter Try.func48, Try.ntmps48
        go_wp2_with fail
        refine (HC _).mono ?_
        rintro e w1 ⟨rfl, hb1⟩
        go_wp2_with fail
        refine (HK _).mono ?_
        rintro e w2 ⟨ao, cap, rfl, hH, hb2⟩
        go_wp2
        go_ret2
        exact ⟨ret_pair HD.out, hb1.trans (hb2.mono hb1.size)⟩
    · obtain ⟨m, rfl⟩ := Int.eq_ofNat_of_zero_le (show 0 ≤ task by omega)
      have hm : m < (tasksOf s.data.toList).length := by omega
      have HF : feasOk (tasksOf s.data.toList) m := fun c ao cap wx hc hH =>
        ref_feasible ao _ cap _ wx rfl (with_bounds _ m c hn8 hx hc).1 (with_bounds _ m c hn8 hx hc).2 hH
      cases hh : feasB (withC (tasksOf s.data.toList) m 0)
      · have HD : Hid (roomAns s.data.toList (m : Int) = (0, 6)) := by unfold Hid roomAns; rw [if_neg (by simp [h1]), if_neg h2, Int.toNat_natCast, if_pos hh]
        generalize tasksOf s.data.toList = L at *
        have HF0 : Hid (∀ (ao : Option Addr) (cap : Nat) (wx : World), HoldsA wx ao (withC L m 0) → Calls Try.prog 17 #[.slice ao (withC L m 0).length cap] wx fun e w' => e = .returned (.bool false) ∧ ∃ q, w' = wx.drewN q) := by
          intro ao cap wx hH; have := HF 0 ao cap wx (by omega) hH; rw [hh] at this; exact this
        clear h1 h2 hh
        go_enter Try.func48, Try.ntmps48
        go_wp2_with fail
        refine (HC _).mono ?_
        rintro e w1 ⟨rfl, hb1⟩
        go_wp2_with fail
        refine (HK _).mono ?_
        rintro e w2 ⟨ao, cap, rfl, hH, hb2⟩
        obtain ⟨n, hn⟩ : ∃ n, n = L.length := ⟨_, rfl⟩
        rw [← hn]
        have HN : Hid (n = L.length) := hn
        have hmn : (m : Int) < (n : Int) := by omega
        clear hn
        have HWi : withOk L ao n cap m w2 := by
          intro c wx hc hb
          refine (ref_with ao n cap L m c wx HN.out hn8 hx hc (hH.later hb)).mono ?_
          rintro e w' ⟨v, rfl, hown, hb'⟩
          obtain ⟨ao', cap', rfl, hH'⟩ := holds_of_owns hown
          exact ⟨ao', cap', rfl, hH', hb'⟩
        have HW0 := HWi 0 w2 (by omega) (Below.refl _ _)
        rw [show ((0 : Nat) : Int) = 0 from rfl] at HW0
        clear HWi
        go_wp2_with fail
        refine HW0.mono ?_
        rintro e w3 ⟨ao', cap', rfl, hH', hb3⟩
        have HF1 := HF0.out ao' cap' w3 hH'
        generalize (withC L m 0).length = n' at *
        clear hH' HF HF0
        go_wp2_with fail
        refine HF1.mono ?_
        rintro e w4 ⟨rfl, q, rfl⟩
        go_wp2
        go_ret2
        exact ⟨ret_pair HD.out, belN ((hb1.trans (hb2.mono hb1.size)).trans (hb3.mono (Nat.le_trans hb1.size hb2.size))) _⟩
      · have HD : Hid (roomAns s.data.toList (m : Int) = (((roomFrom (tasksOf s.data.toList) m ((tasksOf s.data.toList).getD m ⟨0, 0, 0⟩).d : Nat) : Int), 0)) := by unfold Hid roomAns; rw [if_neg (by simp [h1]), if_neg h2, Int.toNat_natCast, if_neg (by simp [hh])]
        generalize tasksOf s.data.toList = L at *
        have HF0 : Hid (∀ (ao : Option Addr) (cap : Nat) (wx : World), HoldsA wx ao (withC L m 0) → Calls Try.prog 17 #[.slice ao (withC L m 0).length cap] wx fun e w' => e = .returned (.bool true) ∧ ∃ q, w' = wx.drewN q) := by
          intro ao cap wx hH; have := HF 0 ao cap wx (by omega) hH; rw [hh] at this; exact this
        clear h1 h2 hh
        go_enter Try.func48, Try.ntmps48
        go_wp2_with fail
        refine (HC _).mono ?_
        rintro e w1 ⟨rfl, hb1⟩
        go_wp2_with fail
        refine (HK _).mono ?_
        rintro e w2 ⟨ao, cap, rfl, hH, hb2⟩
        obtain ⟨n, hn⟩ : ∃ n, n = L.length := ⟨_, rfl⟩
        rw [← hn]
        have HN : Hid (n = L.length) := hn
        have hmn : (m : Int) < (n : Int) := by omega
        clear hn
        have HWi : withOk L ao n cap m w2 := by
          intro c wx hc hb
          refine (ref_with ao n cap L m c wx HN.out hn8 hx hc (hH.later hb)).mono ?_
          rintro e w' ⟨v, rfl, hown, hb'⟩
          obtain ⟨ao', cap', rfl, hH'⟩ := holds_of_owns hown
          exact ⟨ao', cap', rfl, hH', hb'⟩
        have HW0 := HWi 0 w2 (by omega) (Below.refl _ _)
        rw [show ((0 : Nat) : Int) = 0 from rfl] at HW0
        go_wp2_with fail
        refine HW0.mono ?_
        rintro e w3 ⟨ao', cap', rfl, hH', hb3⟩
        have HF1 := HF0.out ao' cap' w3 hH'
        generalize (withC L m 0).length = n' at *
        clear hH' HF0
        go_wp2_with fail
        refine HF1.mono ?_
        rintro e w4 ⟨rfl, q, rfl⟩
        obtain ⟨b, rfl, hbl, c0, c1, c2⟩ := hH m hm
        have hgd : L.getD m ⟨0, 0, 0⟩ = L[m] := by rw [List.getD_eq_getElem?_getD, List.getElem?_eq_getElem hm]; rfl
        rw [hgd] at HD
        have hxm := hx _ (List.getElem_mem hm)
        generalize L[m] = x at *
        obtain ⟨xc, D, T⟩ := x
        have c1' := hb3.cell (p := ⟨b, m * 3 + 1, none⟩) hbl
        rw [c1] at c1'
        dsimp only at *
        have hbel : Below w2.heap.size w2 (w3.drewN q) := belN hb3 q
        have hbw : Below w.heap.size w w2 := hb1.trans (hb2.mono hb1.size)
        clear hH hx c0 c1 c2 HW0 HF1 hgd hb3 hb1 hb2 HC HK
        go_wp2_with fail
        go_loopw [9, 10, 11] (fun _ _ i wr => ∃ k : Nat, k ≤ 9 ∧ i = .int .i64 k ∧ roomFrom L m D = roomFrom L m k ∧ Below w2.heap.size w2 wr) (fun _ _ i _ => (intOf i).toNat)
        case atStart => exact ⟨D, hxm.2.1, rfl, rfl, hbel⟩
        case round =>
          obtain ⟨k, hk, rfl, hall, hbr⟩ := hrel
          have HA : Hid (roomFrom L m D = roomFrom L m k) := hall
          clear hall hbel
          cases k with
          | zero =>
            go_wp2
            go_ret2
            exact ⟨ret_pair (by rw [HD.out, HA.out]; rfl), hbw.trans (hbr.mono hbw.size)⟩
          | succ k =>
            have HWk := HWi (k + 1) wr hk hbr
            have hkp : (0 : Int) < ((k + 1 : Nat) : Int) := by omega
            have HFk := HF (k + 1)
            have hhit := roomFrom_hit L m k
            have hmiss := roomFrom_miss L m k
            generalize withC L m (k + 1) = Z at *
            have H1 : Hid (feasB Z = true → roomFrom L m (k + 1) = k + 1) := hhit
            have H2 : Hid (feasB Z = false → roomFrom L m (k + 1) = roomFrom L m k) := hmiss
            clear hhit hmiss
            go_wp2_with fail
            refine HWk.mono ?_
            rintro e w5 ⟨ao5, cap5, rfl, hH5, hb5⟩
            have HF5 := HFk ao5 cap5 w5 hk hH5
            generalize Z.length = zn at *
            cases hz : feasB Z
            · rw [hz] at HF5
              have HZ : Hid (feasB Z = false) := hz
              clear hz hH5 HFk HWk
              go_wp2_with fail
              refine HF5.mono ?_
              rintro e w6 ⟨rfl, q6, rfl⟩
              go_wp2
              go_roundw
              case rel => exact ⟨k, by omega, by go_num, by rw [HA.out]; exact H2.out HZ.out, belN (hbr.trans (hb5.mono hbr.size)) _⟩
              case measure => simp [intOf]
            · rw [hz] at HF5
              have HZ : Hid (feasB Z = true) := hz
              clear hz hH5 HFk HWk
              go_wp2_with fail
              refine HF5.mono ?_
              rintro e w6 ⟨rfl, q6, rfl⟩
              go_wp2
              go_ret2
              exact ⟨ret_pair (by rw [HD.out, HA.out, H1.out HZ.out]; rfl), belN (hbw.trans ((hbr.trans (hb5.mono hbr.size)).mono hbw.size)) _⟩
  · have HD : Hid (roomAns s.data.toList task = (0, (checkOf s.data.toList).1)) := by unfold Hid roomAns; rw [if_pos h1]
    have HC := fun w => ref_check s w hs
    have hck := checkOf_bound s.data.toList
    generalize (checkOf s.data.toList).2 = c2 at *
    generalize (checkOf s.data.toList).1 = c1 at *
    have hne : (c1 != 0) = true := by simpa using h1
    go_enter Try.func48, Try.ntmps48
    go_wp2_with fail
    refine (HC _).mono ?_
    rintro e w1 ⟨rfl, hb1⟩
    go_wp2
    go_ret2
    exact ⟨ret_pair HD.out, hb1⟩
end Go.Proofs.Ytdhofmnidlhjpab
