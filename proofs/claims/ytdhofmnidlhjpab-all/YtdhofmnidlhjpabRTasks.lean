import Derived.Test.YtdhofmnidlhjpabRPlace
import Derived.OwnWalk
import Derived.Laws.Pointers
import Derived.Deep.RegionHeld3
import Derived.Deep.AppendLies
namespace Go.Proofs.Ytdhofmnidlhjpab
open Go.RowKit

theorem Try.infoTask : (Try.prog.info? 68).map (fun i => (i.zero, i.size, i.bytes)) = some (some (.agg #[.int .i64 0, .int .i64 0, .int .i64 0]), 3, 24) := by kernel_rfl

/-- The cells of a task, of a list of tasks. -/
def tkCells (x : Tk) : List Value := [.int .i64 x.c, .int .i64 x.d, .int .i64 x.t]
def rowOf : List Tk → List Value
  | [] => []
  | x :: r => tkCells x ++ rowOf r
theorem rowOf_append (l m : List Tk) : rowOf (l ++ m) = rowOf l ++ rowOf m := by
  induction l with
  | nil => rfl
  | cons x r ih => simp only [List.cons_append, rowOf, ih, List.append_assoc]

theorem getD_byte (s : ByteArray) (j : Nat) (h : j < s.size) : s.data.toList.getD j 0 = s[j] := by
  rw [List.getD_eq_getElem?_getD, List.getElem?_eq_getElem (by simpa using h)]; rfl

theorem row_succ (s : ByteArray) (k j : Nat) (hj : j = 4 * k) (h : j + 2 < s.size) (h0 : 49 ≤ (s[j]'(by omega)).toNat) (h1 : 49 ≤ (s[j + 1]'(by omega)).toNat) (h2 : 49 ≤ (s[j + 2]'h).toNat) :
    rowOf ((List.range (k + 1)).map (tkAt s.data.toList)) = rowOf ((List.range k).map (tkAt s.data.toList)) ++ [.int .i64 (((s[j]'(by omega)).toNat : Int) - 48), .int .i64 (((s[j + 1]'(by omega)).toNat : Int) - 48), .int .i64 (((s[j + 2]'h).toNat : Int) - 48)] := by
  subst hj
  rw [List.range_succ, List.map_append, rowOf_append]
  congr 1
  simp only [List.map_cons, List.map_nil, rowOf, tkCells, tkAt, List.append_nil]
  rw [getD_byte s _ (by omega), getD_byte s _ (by omega), getD_byte s _ h]
  rw [Int.ofNat_sub (by omega), Int.ofNat_sub (by omega), Int.ofNat_sub (by omega)]
  rfl

theorem tasks_len (s : ByteArray) (hf : formed s.data.toList) (k : Nat) (hk : 4 * k ≤ s.size + 1) (h : ¬ 4 * k + 2 < s.size) : k = (tasksOf s.data.toList).length := by
  have := hf.2
  rw [tasksOf_length]
  simp only [Array.length_toList, ByteArray.size_data] at *
  omega

theorem own_end {wr : World} {B e k : Nat} {v : Value} {l : List UInt8} (h : wr.ownsRow B e 3 v k (rowOf ((List.range k).map (tkAt l)))) (hk : k = (tasksOf l).length) :
    wr.ownsRow B e 3 v (tasksOf l).length (rowOf (tasksOf l)) := by
  rw [tasksOf_length] at hk
  subst hk
  rw [tasksOf_length]
  exact h

theorem lt0 {j n : Nat} (h : j + 2 < n) : j < n := by omega
theorem lt1 {j n : Nat} (h : j + 2 < n) : j + 1 < n := by omega
theorem digs (s : ByteArray) (hf : formed s.data.toList) (j : Nat) (h4 : j % 4 = 0) (h : j + 2 < s.size) :
    (49 ≤ (s[j]'(lt0 h)).toNat ∧ (s[j]'(lt0 h)).toNat ≤ 57) ∧ (49 ≤ (s[j + 1]'(lt1 h)).toNat ∧ (s[j + 1]'(lt1 h)).toNat ≤ 57) ∧ (49 ≤ (s[j + 2]'h).toNat ∧ (s[j + 2]'h).toNat ≤ 57) :=
  ⟨formed_digit _ hf j (by simp; omega) (by omega), formed_digit _ hf (j + 1) (by simp; omega) (by omega), formed_digit _ hf (j + 2) (by simp; omega) (by omega)⟩

set_option maxRecDepth 100000 in
set_option maxHeartbeats 3200000 in
theorem ref_tasks (s : ByteArray) (w : World) (hs : s.size ≤ 31) (hf : formed s.data.toList) :
    Calls Try.prog 16 #[.string s] w fun e w' => ∃ v, e = .returned v ∧ w'.ownsRow w.heap.size 68 3 v (tasksOf s.data.toList).length (rowOf (tasksOf s.data.toList)) ∧ Below w.heap.size w w' := by
  obtain ⟨i0, hi0, hz0, hz1, hz2⟩ := info_parts Try.infoTask
  go_enter Try.func16, Try.ntmps16
  go_wp2
  go_loopw [3, 4] (fun v i wr => ∃ k : Nat, 4 * k ≤ s.size + 1 ∧ i = .int .i64 ((4 * k : Nat) : Int) ∧ wr.ownsRow w.heap.size 68 3 v k (rowOf ((List.range k).map (tkAt s.data.toList))) ∧ Below w.heap.size w wr) (fun _ i _ => s.size + 1 - (intOf i).toNat)
  case atStart => exact ⟨0, Nat.zero_le _, rfl, World.ownsRow_nil _ _ _ _, Below.refl _ _⟩
  case round =>
    obtain ⟨k, hk, rfl, hown, hbel⟩ := hrel
    obtain ⟨j, hj⟩ : ∃ j : Nat, j = 4 * k := ⟨_, rfl⟩
    rw [← hj]
    have HJ : Hid (j = 4 * k) := hj
    by_cases hlt : j + 2 < s.size
    · obtain ⟨d0, d1, d2⟩ := digs s hf j (by omega) hlt
      clear hj hk
      have i1 : (0 : Int) ≤ (j : Int) := by omega
      have i2 : (j : Int) < (s.size : Int) := by omega
      have i3 : (0 : Int) ≤ (j : Int) + 1 := by omega
      have i4 : (j : Int) + 1 < (s.size : Int) := by omega
      have i5 : (0 : Int) ≤ (j : Int) + 2 := by omega
      have i6 : (j : Int) + 2 < (s.size : Int) := by omega
      have hsz := hbel.size
      have e1 : IntKind.i64.wrap ((j : Int) + 1) = (j : Int) + 1 := IntWalk.i64_in _ (by omega)
      have e2 : IntKind.i64.wrap ((j : Int) + 2) = (j : Int) + 2 := IntWalk.i64_in _ (by omega)
      have t2 : ((j : Int) + 2).toNat = j + 2 := by omega
      have a0 : IntKind.u8.wrap (((s[j]'(lt0 hlt)).toNat : Int) - 48) = ((s[j]'(lt0 hlt)).toNat : Int) - 48 := IntWalk.u8_in _ (by omega)
      have a1 : IntKind.u8.wrap (((s[j + 1]'(lt1 hlt)).toNat : Int) - 48) = ((s[j + 1]'(lt1 hlt)).toNat : Int) - 48 := IntWalk.u8_in _ (by omega)
      have a2 : IntKind.u8.wrap (((s[j + 2]'hlt).toNat : Int) - 48) = ((s[j + 2]'hlt).toNat : Int) - 48 := IntWalk.u8_in _ (by omega)
      have b0 : IntKind.i64.wrap (((s[j]'(lt0 hlt)).toNat : Int) - 48) = ((s[j]'(lt0 hlt)).toNat : Int) - 48 := IntWalk.i64_in _ (by omega)
      have b1 : IntKind.i64.wrap (((s[j + 1]'(lt1 hlt)).toNat : Int) - 48) = ((s[j + 1]'(lt1 hlt)).toNat : Int) - 48 := IntWalk.i64_in _ (by omega)
      have b2 : IntKind.i64.wrap (((s[j + 2]'hlt).toNat : Int) - 48) = ((s[j + 2]'hlt).toNat : Int) - 48 := IntWalk.i64_in _ (by omega)
      go_wp2_with fail
      go_region_held3 (fun w' => w.heap.size ≤ w'.heap.size) (first | (simp; omega) | (have := hgrow.size; simp at *; omega))
        ((refine step_append_lies _ (by rfl) _ _ _ (by rfl) w.heap.size 68 i0 _ 3 24 Try.underlying44 hi0 hz0 hz1 hz2 rfl (by omega) u3 k _ (by rfl) ((hown.alloc _).drew)
              ⟨wr.heap.size, 0, none⟩ 1 1 [.int .i64 (s[j].toNat - 48), .int .i64 (s[j + 1].toNat - 48), .int .i64 (s[j + 2].toNat - 48)] (by rfl) (by rfl) (World.news_of_block (cs := #[.int .i64 (s[j].toNat - 48), .int .i64 (s[j + 1].toNat - 48), .int .i64 (s[j + 2].toNat - 48)]) (t := 68) (fr := (0, 0)) (heap_alloc_new wr _)) (by simp [Value.oneCell'])
              (by omega) (by unfold maxLen; have := HJ.out; omega) (by have := HJ.out; omega) (by simp; omega) (wr.heap.size + 1) (by simp) ?_; intro gg cap w1 hown1 hgrow hat hlt1))
      all_goals
        clear a0 a1 a2 b0 b1 b2
        have hbel1 := Below.grown ((hbel.alloc hsz _).drew) hgrow (by simp; omega) (fun q hq => (hown.lt q hq).1)
        rw [← row_succ s k j HJ.out hlt d0.1 d1.1 d2.1] at hown1
        have hj := HJ.out
        clear hgrow hat hlt1 hown hbel d0 d1 d2
        go_wp2
        go_roundw
        case rel => exact ⟨k + 1, by omega, by go_num, hown1, hbel1⟩
        case measure => simp [intOf]; omega
    · go_wp2
      go_ret
      have e := tasks_len s hf k hk (by omega)
      exact ⟨u3, rfl, own_end hown e, hbel⟩
end Go.Proofs.Ytdhofmnidlhjpab
