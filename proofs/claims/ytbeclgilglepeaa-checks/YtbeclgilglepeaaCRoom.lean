import Derived.Test.YtbeclgilglepeaaCFeas
import Derived.Test.YtbeclgilglepeaaCTasks
import Derived.Test.YtbeclgilglepeaaRRoom
namespace Go.Proofs.Ytbeclgilglepeaa
open Go.RowKit

theorem blk1c (w : World) (o : Obj) : (w.alloc o).heap[w.heap.size]? = some o := heap_alloc_new w o

set_option maxRecDepth 100000 in
set_option maxHeartbeats 3200000 in
theorem code_without (ao : Option Addr) (n cap : Nat) (l : List Tk) (task : Nat) (w : World) (hn : n = l.length) (hl : l.length ≤ 8) (hx : ∀ x ∈ l, 1 ≤ x.c ∧ x.c ≤ 9 ∧ x.d ≤ 9 ∧ 1 ≤ x.t ∧ x.t ≤ 9) (hH : HoldsA w ao l) :
    Calls Try.prog 44 #[.slice ao n cap, .int .i64 task] w fun e w' => ∃ v, e = .returned v ∧ w'.ownsRow w.heap.size 69 3 v (withC l task 0).length (rowOf (withC l task 0)) ∧ Below w.heap.size w w' := by
  obtain ⟨i0, hi0, hz0, hz1, hz2⟩ := info_parts Try.infoCTask
  have HN : Hid (n = l.length) := hn
  have hn8 : n ≤ 8 := by omega
  clear hn hl
  go_enter Try.func44, Try.ntmps44
  go_wp2
  go_loopw [5, 6] (fun v i wr => ∃ k z : Nat, k ≤ n ∧ i = .int .i64 k ∧ z = (withFrom task 0 (l.take k) 0).length ∧ wr.ownsRow w.heap.size 69 3 v z (rowOf (withFrom task 0 (l.take k) 0)) ∧ Below w.heap.size w wr) (fun _ i _ => n - (intOf i).toNat)
  case atStart => exact ⟨0, 0, Nat.zero_le _, rfl, rfl, World.ownsRow_nil _ _ _ _, Below.refl _ _⟩
  case round =>
    obtain ⟨k, z, hk, rfl, hz, hown, hbel⟩ := hrel
    by_cases hlt : k < n
    · have hkl : k < l.length := by rw [← HN.out]; exact hlt
      have hH2 := HoldsA.later hH hbel
      obtain ⟨b, rfl, hb, h0, h1, h2⟩ := hH2 k hkl
      obtain ⟨fc1, fc, fd, ft1, ft2⟩ := hx _ (List.getElem_mem hkl)
      have hsn := withFrom_snoc l task 0 k hkl
      have hzl := withFrom_length task 0 (l.take k) 0
      have hz8 : z ≤ 8 := by rw [List.length_take] at hzl; omega
      generalize l[k] = x at *
      obtain ⟨xc, d, T⟩ := x
      have HS : Hid (withFrom task 0 (l.take (k + 1)) 0 = withFrom task 0 (l.take k) 0 ++ withFrom task 0 [⟨xc, d, T⟩] k) := hsn
      have HZ : Hid (z = (withFrom task 0 (l.take k) 0).length) := hz
      dsimp only at *
      clear hsn hH hx hH2 hz hzl
      generalize withFrom task 0 (l.take k) 0 = m at *
      have g0 : (0 : Int) ≤ (k : Int) := by omega
      have g1 : (k : Int) < (n : Int) := by omega
      have hsz := hbel.size
      by_cases hkt : k = task
      · have hkd : ((k : Int) != (task : Int)) = false := by simp; omega
        have HW : Hid (withFrom task 0 (l.take (k + 1)) 0 = m) := by unfold Hid; rw [HS.out, with_drop ⟨xc, d, T⟩ task 0 k 0 (by rw [if_pos hkt]) (by omega), List.append_nil]
        clear hkt HS
        go_wp2
        go_roundw
        case rel => exact ⟨k + 1, z, by omega, by go_num, by rw [HW.out]; exact HZ.out, by rw [HW.out]; exact hown, hbel⟩
        case measure => simp [intOf]; omega
      · have hkd : ((k : Int) != (task : Int)) = true := by simp; omega
        have HW : Hid (withFrom task 0 (l.take (k + 1)) 0 = m ++ [⟨xc, d, T⟩]) := by unfold Hid; rw [HS.out, with_keep ⟨xc, d, T⟩ task 0 k xc (by rw [if_neg hkt]) (by omega)]
        clear hkt HS
        go_wp2_with (at_builtin; refine wpList_append_lies _ (by rfl) _ _ _ (by rfl) w.heap.size 69 i0 _ 3 24 Try.underlying46 hi0 hz0 hz1 hz2 rfl (by omega) u5 z _ (by rfl) (hown.alloc _) ⟨wr.heap.size, 0, none⟩ 1 1 [.int .i64 xc, .int .i64 d, .int .i64 T] (by rfl) (by rfl) (World.news_of_block (cs := #[.int .i64 xc, .int .i64 d, .int .i64 T]) (t := 69) (fr := (0, 0)) (blk1c wr _)) (by simp [Value.oneCell']) (by omega) (by unfold maxLen; omega) (by omega) (by simp; omega) (wr.heap.size + 1) (by simp) ?_; intro gg cap w1 hown1 hgrow hat hlt1)
        have hbel1 := Below.grown (hbel.alloc hsz _) hgrow (by simp; omega) (fun q hq => (hown.lt q hq).1)
        go_roundw
        case rel => exact ⟨k + 1, z + 1, by omega, by go_num, by rw [HW.out, List.length_append, ← HZ.out]; rfl, by rw [HW.out]; have := own_keep hown1 HZ.out; rw [List.length_append, ← HZ.out] at this; exact this, hbel1⟩
        case measure => simp [intOf]; omega
    · have e : l.take k = l := List.take_of_length_le (by rw [← HN.out]; omega)
      rw [e] at hz hown
      clear e
      go_wp2
      go_ret
      refine ⟨u5, rfl, ?_, hbel⟩
      unfold withC
      rw [← hz]
      exact hown

set_option maxRecDepth 100000 in
set_option maxHeartbeats 3200000 in
theorem with_work (ao : Option Addr) (n cap : Nat) (l : List Tk) (task c : Nat) (w : World) (hn : n = l.length) (hl : l.length ≤ 8) (hx : ∀ x ∈ l, 1 ≤ x.c ∧ x.c ≤ 9 ∧ x.d ≤ 9 ∧ 1 ≤ x.t ∧ x.t ≤ 9) (hc1 : 1 ≤ c) (hc : c ≤ 9) (hH : HoldsA w ao l) :
    Calls Try.prog 63 #[.slice ao n cap, .int .i64 task, .int .i64 c] w fun e w' => ∃ v, e = .returned v ∧ w'.ownsRow w.heap.size 69 3 v (withC l task c).length (rowOf (withC l task c)) ∧ Below w.heap.size w w' := by
  obtain ⟨i0, hi0, hz0, hz1, hz2⟩ := info_parts Try.infoCTask
  have HN : Hid (n = l.length) := hn
  have hn8 : n ≤ 8 := by omega
  clear hn hl
  go_enter Try.func63, Try.ntmps63
  go_wp2
  go_loopw [7, 8, 9] (fun v i _ wr => ∃ k z : Nat, k ≤ n ∧ i = .int .i64 k ∧ z = (withFrom task c (l.take k) 0).length ∧ wr.ownsRow w.heap.size 69 3 v z (rowOf (withFrom task c (l.take k) 0)) ∧ Below w.heap.size w wr) (fun _ i _ _ => n - (intOf i).toNat)
  case atStart => exact ⟨0, 0, Nat.zero_le _, rfl, rfl, World.ownsRow_nil _ _ _ _, Below.refl _ _⟩
  case round =>
    obtain ⟨k, z, hk, rfl, hz, hown, hbel⟩ := hrel
    by_cases hlt : k < n
    · have hkl : k < l.length := by rw [← HN.out]; exact hlt
      have hH2 := HoldsA.later hH hbel
      obtain ⟨b, rfl, hb, h0, h1, h2⟩ := hH2 k hkl
      obtain ⟨fc1, fc, fd, ft1, ft2⟩ := hx _ (List.getElem_mem hkl)
      have hsn := withFrom_snoc l task c k hkl
      have hzl := withFrom_length task c (l.take k) 0
      have hz8 : z ≤ 8 := by rw [List.length_take] at hzl; omega
      generalize l[k] = x at *
      obtain ⟨xc, d, T⟩ := x
      have HS : Hid (withFrom task c (l.take (k + 1)) 0 = withFrom task c (l.take k) 0 ++ withFrom task c [⟨xc, d, T⟩] k) := hsn
      have HZ : Hid (z = (withFrom task c (l.take k) 0).length) := hz
      dsimp only at *
      clear hsn hH hx hH2 hz hzl
      generalize withFrom task c (l.take k) 0 = m at *
      have g0 : (0 : Int) ≤ (k : Int) := by omega
      have g1 : (k : Int) < (n : Int) := by omega
      have hsz := hbel.size
      by_cases hkt : k = task
      · have hkd : ((k : Int) == (task : Int)) = true := by simp; omega
        have HW : Hid (withFrom task c (l.take (k + 1)) 0 = m ++ [⟨c, d, T⟩]) := by unfold Hid; rw [HS.out, with_keep ⟨xc, d, T⟩ task c k c (by rw [if_pos hkt]) (by omega)]
        clear hkt HS
        go_wp2_with (at_builtin; refine wpList_append_lies _ (by rfl) _ _ _ (by rfl) w.heap.size 69 i0 _ 3 24 Try.underlying46 hi0 hz0 hz1 hz2 rfl (by omega) u7 z _ (by rfl) ((hown.alloc _).alloc _) ⟨wr.heap.size + 1, 0, none⟩ 1 1 [.int .i64 c, .int .i64 d, .int .i64 T] (by rfl) (by rfl) (World.news_of_block (cs := #[.int .i64 c, .int .i64 d, .int .i64 T]) (t := 69) (fr := (0, 0)) (blk2r wr _ _)) (by simp [Value.oneCell']) (by omega) (by unfold maxLen; omega) (by omega) (by simp; omega) (wr.heap.size + 2) (by simp) ?_; intro gg cap w1 hown1 hgrow hat hlt1)
        have hbel1 := Below.grown ((hbel.alloc hsz _).alloc (by simp; omega) _) hgrow (by simp; omega) (fun q hq => (hown.lt q hq).1)
        go_roundw
        case rel => exact ⟨k + 1, z + 1, by omega, by go_num, by rw [HW.out, List.length_append, ← HZ.out]; rfl, by rw [HW.out]; have := own_keep hown1 HZ.out; rw [List.length_append, ← HZ.out] at this; exact this, hbel1⟩
        case measure => simp [intOf]; omega
      · have hkd : ((k : Int) == (task : Int)) = false := by simp; omega
        have HW : Hid (withFrom task c (l.take (k + 1)) 0 = m ++ [⟨xc, d, T⟩]) := by unfold Hid; rw [HS.out, with_keep ⟨xc, d, T⟩ task c k xc (by rw [if_neg hkt]) (by omega)]
        clear hkt HS
        go_wp2_with (at_builtin; refine wpList_append_lies _ (by rfl) _ _ _ (by rfl) w.heap.size 69 i0 _ 3 24 Try.underlying46 hi0 hz0 hz1 hz2 rfl (by omega) u7 z _ (by rfl) ((hown.alloc _).alloc _) ⟨wr.heap.size + 1, 0, none⟩ 1 1 [.int .i64 xc, .int .i64 d, .int .i64 T] (by rfl) (by rfl) (World.news_of_block (cs := #[.int .i64 xc, .int .i64 d, .int .i64 T]) (t := 69) (fr := (0, 0)) (blk2r wr _ _)) (by simp [Value.oneCell']) (by omega) (by unfold maxLen; omega) (by omega) (by simp; omega) (wr.heap.size + 2) (by simp) ?_; intro gg cap w1 hown1 hgrow hat hlt1)
        have hbel1 := Below.grown ((hbel.alloc hsz _).alloc (by simp; omega) _) hgrow (by simp; omega) (fun q hq => (hown.lt q hq).1)
        go_roundw
        case rel => exact ⟨k + 1, z + 1, by omega, by go_num, by rw [HW.out, List.length_append, ← HZ.out]; rfl, by rw [HW.out]; have := own_keep hown1 HZ.out; rw [List.length_append, ← HZ.out] at this; exact this, hbel1⟩
        case measure => simp [intOf]; omega
    · have e : l.take k = l := List.take_of_length_le (by rw [← HN.out]; omega)
      rw [e] at hz hown
      clear e
      go_wp2
      go_ret
      refine ⟨u7, rfl, ?_, hbel⟩
      unfold withC
      rw [← hz]
      exact hown
end Go.Proofs.Ytbeclgilglepeaa
