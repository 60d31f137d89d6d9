import Derived.Test.YtdhofmnidlhjpabRTasks
import Derived.Test.YtdhofmnidlhjpabCPlace
import Derived.BigRegion
namespace Go.Proofs.Ytdhofmnidlhjpab
open Go.RowKit

theorem Try.infoCTask : (Try.prog.info? 65).map (fun i => (i.zero, i.size, i.bytes)) = some (some (.agg #[.int .i64 0, .int .i64 0, .int .i64 0]), 3, 24) := by kernel_rfl

theorem blk2 (w : World) (o o' : Obj) : ((w.alloc o).alloc o').drew.heap[w.heap.size + 1]? = some o' := by
  have := heap_alloc_new (w.alloc o) o'
  rw [World.size_alloc] at this
  exact this

set_option maxRecDepth 100000 in
set_option maxHeartbeats 3200000 in
theorem split_tasks (s : ByteArray) (w : World) (hs : s.size ≤ 31) (hf : formed s.data.toList) :
    Calls Try.prog 30 #[.string s] w fun e w' => ∃ v, e = .returned v ∧ w'.ownsRow w.heap.size 65 3 v (tasksOf s.data.toList).length (rowOf (tasksOf s.data.toList)) ∧ Below w.heap.size w w' := by
  obtain ⟨i0, hi0, hz0, hz1, hz2⟩ := info_parts Try.infoCTask
  go_enter Try.func30, Try.ntmps30
  go_wp2
  go_loopw [3, 4, 5] (fun v i _ wr => ∃ k : Nat, 4 * k ≤ s.size + 1 ∧ i = .int .i64 ((4 * k : Nat) : Int) ∧ wr.ownsRow w.heap.size 65 3 v k (rowOf ((List.range k).map (tkAt s.data.toList))) ∧ Below w.heap.size w wr) (fun _ i _ _ => s.size + 1 - (intOf i).toNat)
  case atStart => exact ⟨0, Nat.zero_le _, rfl, World.ownsRow_nil _ _ _ _, Below.refl _ _⟩
  case round =>
    obtain ⟨k, hk, rfl, hown, hbel⟩ := hrel
    obtain ⟨j, hj⟩ : ∃ j : Nat, j = 4 * k := ⟨_, rfl⟩
    rw [← hj]
    have HJ : Hid (j = 4 * k) := hj
    by_cases hlt : j + 2 < s.size
    · obtain ⟨d0, d1, d2⟩ := digs s hf j (by omega) hlt
      clear hj hk
      have i1 : (0 : Int) ≤ (j : Int) := by omega
      have i2 : (j : Int) < (s.size : Int) := by omega
      have i3 : (0 : Int) ≤ (j : Int) + 1 := by omega
      have i4 : (j : Int) + 1 < (s.size : Int) := by omega
      have i5 : (0 : Int) ≤ (j : Int) + 2 := by omega
      have i6 : (j : Int) + 2 < (s.size : Int) := by omega
      have hsz := hbel.size
      have e1 : IntKind.i64.wrap ((j : Int) + 1) = (j : Int) + 1 := IntWalk.i64_in _ (by omega)
      have e2 : IntKind.i64.wrap ((j : Int) + 2) = (j : Int) + 2 := IntWalk.i64_in _ (by omega)
      have t2 : ((j : Int) + 2).toNat = j + 2 := by omega
      have a0 : IntKind.u8.wrap (((s[j]'(lt0 hlt)).toNat : Int) - 48) = ((s[j]'(lt0 hlt)).toNat : Int) - 48 := IntWalk.u8_in _ (by omega)
      have a1 : IntKind.u8.wrap (((s[j + 1]'(lt1 hlt)).toNat : Int) - 48) = ((s[j + 1]'(lt1 hlt)).toNat : Int) - 48 := IntWalk.u8_in _ (by omega)
      have a2 : IntKind.u8.wrap (((s[j + 2]'hlt).toNat : Int) - 48) = ((s[j + 2]'hlt).toNat : Int) - 48 := IntWalk.u8_in _ (by omega)
      have b0 : IntKind.i64.wrap (((s[j]'(lt0 hlt)).toNat : Int) - 48) = ((s[j]'(lt0 hlt)).toNat : Int) - 48 := IntWalk.i64_in _ (by omega)
      have b1 : IntKind.i64.wrap (((s[j + 1]'(lt1 hlt)).toNat : Int) - 48) = ((s[j + 1]'(lt1 hlt)).toNat : Int) - 48 := IntWalk.i64_in _ (by omega)
      have b2 : IntKind.i64.wrap (((s[j + 2]'hlt).toNat : Int) - 48) = ((s[j + 2]'hlt).toNat : Int) - 48 := IntWalk.i64_in _ (by omega)
      go_wp2_with fail
      go_big_region
      clear a0 a1 a2 b0 b1 b2
      go_wp2_with (at_builtin; refine wpList_append_lies _ (by rfl) _ _ _ (by rfl) w.heap.size 65 i0 _ 3 24 Try.underlying36 hi0 hz0 hz1 hz2 rfl (by omega) u3 k _ (by rfl) (((hown.alloc _).alloc _).drew) ⟨wr.heap.size + 1, 0, none⟩ 1 1 [.int .i64 (s[j].toNat - 48), .int .i64 (s[j + 1].toNat - 48), .int .i64 (s[j + 2].toNat - 48)] (by rfl) (by rfl) (World.news_of_block (cs := #[.int .i64 (s[j].toNat - 48), .int .i64 (s[j + 1].toNat - 48), .int .i64 (s[j + 2].toNat - 48)]) (t := 65) (fr := (0, 0)) (blk2 wr _ _)) (by simp [Value.oneCell']) (by omega) (by unfold maxLen; have := HJ.out; omega) (by have := HJ.out; omega) (by simp; omega) (wr.heap.size + 2) (by simp) ?_; intro gg cap w1 hown1 hgrow hat hlt1)
      have hbel1 := Below.grown (((hbel.alloc hsz _).alloc (by simp; omega) _).drew) hgrow (by simp; omega) (fun q hq => (hown.lt q hq).1)
      rw [← row_succ s k j HJ.out hlt d0.1 d1.1 d2.1] at hown1
      have hj := HJ.out
      go_roundw
      case rel => exact ⟨k + 1, by omega, by go_num, hown1, hbel1⟩
      case measure => simp [intOf]; omega
    · go_wp2
      go_ret
      have e := tasks_len s hf k hk (by omega)
      exact ⟨u3, rfl, own_end hown e, hbel⟩
end Go.Proofs.Ytdhofmnidlhjpab
