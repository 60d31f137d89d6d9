import Derived.Test.YtbeclgilglepeaaRTest
import Derived.Deep.AppendLies
namespace Go.Proofs.Ytbeclgilglepeaa
open Go.RowKit

theorem blk2r (w : World) (o o' : Obj) : ((w.alloc o).alloc o').heap[w.heap.size + 1]? = some o' := by
  have := heap_alloc_new (w.alloc o) o'
  rw [World.size_alloc] at this
  exact this

theorem withFrom_snoc (l : List Tk) (task c k : Nat) (h : k < l.length) : withFrom task c (l.take (k + 1)) 0 = withFrom task c (l.take k) 0 ++ withFrom task c [l[k]] k := by
  rw [List.take_succ_eq_append_getElem h, withFrom_append, List.length_take, Nat.min_eq_left (by omega), Nat.zero_add]

theorem with_keep (x : Tk) (task c k : Nat) (C : Nat) (hC : (if k = task then c else x.c) = C) (h : 0 < C) : withFrom task c [x] k = [⟨C, x.d, x.t⟩] := by
  simp only [withFrom]; rw [hC, if_pos h]
theorem with_drop (x : Tk) (task c k : Nat) (C : Nat) (hC : (if k = task then c else x.c) = C) (h : ¬ 0 < C) : withFrom task c [x] k = [] := by
  simp only [withFrom]; rw [hC, if_neg h]

theorem own_keep {w : World} {B e n : Nat} {v : Value} {m : List Tk} {C d T : Nat} (h : w.ownsRow B e 3 v (n + 1) (rowOf m ++ [.int .i64 C, .int .i64 d, .int .i64 T])) (hn : n = m.length) :
    w.ownsRow B e 3 v (m ++ [(⟨C, d, T⟩ : Tk)]).length (rowOf (m ++ [(⟨C, d, T⟩ : Tk)])) := by
  rw [rowOf_append, List.length_append, ← hn]
  exact h

set_option maxRecDepth 100000 in
set_option maxHeartbeats 3200000 in
theorem ref_with (ao : Option Addr) (n cap : Nat) (l : List Tk) (task c : Nat) (w : World) (hn : n = l.length) (hl : l.length ≤ 8) (hx : ∀ x ∈ l, x.c ≤ 9 ∧ x.d ≤ 9 ∧ 1 ≤ x.t ∧ x.t ≤ 9) (hc : c ≤ 9) (hH : HoldsA w ao l) :
    Calls Try.prog 46 #[.slice ao n cap, .int .i64 task, .int .i64 c] w fun e w' => ∃ v, e = .returned v ∧ w'.ownsRow w.heap.size 59 3 v (withC l task c).length (rowOf (withC l task c)) ∧ Below w.heap.size w w' := by
  obtain ⟨i0, hi0, hz0, hz1, hz2⟩ := info_parts Try.infoTask
  have HN : Hid (n = l.length) := hn
  have hn8 : n ≤ 8 := by omega
  clear hn hl
  go_enter Try.func46, Try.ntmps46
  go_wp2
  go_loopw [7, 8, 9] (fun v i _ wr => ∃ k z : Nat, k ≤ n ∧ i = .int .i64 k ∧ z = (withFrom task c (l.take k) 0).length ∧ wr.ownsRow w.heap.size 59 3 v z (rowOf (withFrom task c (l.take k) 0)) ∧ Below w.heap.size w wr) (fun _ i _ _ => n - (intOf i).toNat)
  case atStart => exact ⟨0, 0, Nat.zero_le _, rfl, rfl, World.ownsRow_nil _ _ _ _, Below.refl _ _⟩
  case round =>
    obtain ⟨k, z, hk, rfl, hz, hown, hbel⟩ := hrel
    by_cases hlt : k < n
    · have hkl : k < l.length := by rw [← HN.out]; exact hlt
      have hH2 := HoldsA.later hH hbel
      obtain ⟨b, rfl, hb, h0, h1, h2⟩ := hH2 k hkl
      obtain ⟨fc, fd, ft1, ft2⟩ := hx _ (List.getElem_mem hkl)
      have hsn := withFrom_snoc l task c k hkl
      have hzl := withFrom_length task c (l.take k) 0
      have hz8 : z ≤ 8 := by rw [List.length_take] at hzl; omega
      generalize l[k] = x at *
      obtain ⟨xc, d, T⟩ := x
      have HS : Hid (withFrom task c (l.take (k + 1)) 0 = withFrom task c (l.take k) 0 ++ withFrom task c [⟨xc, d, T⟩] k) := hsn
      have HZ : Hid (z = (withFrom task c (l.take k) 0).length) := hz
      dsimp only at *
      clear hsn hH hx hH2 hz hzl
      generalize withFrom task c (l.take k) 0 = m at *
      have g0 : (0 : Int) ≤ (k : Int) := by omega
      have g1 : (k : Int) < (n : Int) := by omega
      have hsz := hbel.size
      obtain ⟨C, hC⟩ : ∃ C, (if k = task then c else xc) = C := ⟨_, rfl⟩
      have hCb : C ≤ 9 := by rw [← hC]; split <;> omega
      have HCC : Hid ((if k = task then c else xc) = C) := hC
      by_cases hpos : 0 < C
      · have HW : Hid (withFrom task c (l.take (k + 1)) 0 = m ++ [⟨C, d, T⟩]) := by unfold Hid; rw [HS.out, with_keep ⟨xc, d, T⟩ task c k C HCC.out hpos]
        by_cases hkt : k = task
        · have hkd : ((k : Int) == (task : Int)) = true := by simp; omega
          rw [if_pos hkt] at hC
          subst hC
          clear hkt HCC HS
          go_wp2_with (at_builtin; refine wpList_append_lies _ (by rfl) _ _ _ (by rfl) w.heap.size 59 i0 _ 3 24 Try.underlying56 hi0 hz0 hz1 hz2 rfl (by omega) u7 z _ (by rfl) ((hown.alloc _).alloc _) ⟨wr.heap.size + 1, 0, none⟩ 1 1 [.int .i64 c, .int .i64 d, .int .i64 T] (by rfl) (by rfl) (World.news_of_block (cs := #[.int .i64 c, .int .i64 d, .int .i64 T]) (t := 59) (fr := (0, 0)) (blk2r wr _ _)) (by simp [Value.oneCell']) (by omega) (by unfold maxLen; omega) (by omega) (by simp; omega) (wr.heap.size + 2) (by simp) ?_; intro gg cap w1 hown1 hgrow hat hlt1)
          have hbel1 := Below.grown ((hbel.alloc hsz _).alloc (by simp; omega) _) hgrow (by simp; omega) (fun q hq => (hown.lt q hq).1)
          go_roundw
          case rel => exact ⟨k + 1, z + 1, by omega, by go_num, by rw [HW.out, List.length_append, ← HZ.out]; rfl, by rw [HW.out]; have := own_keep hown1 HZ.out; rw [List.length_append, ← HZ.out] at this; exact this, hbel1⟩
          case measure => simp [intOf]; omega
        · have hkd : ((k : Int) == (task : Int)) = false := by simp; omega
          rw [if_neg hkt] at hC
          subst hC
          clear hkt HCC HS
          go_wp2_with (at_builtin; refine wpList_append_lies _ (by rfl) _ _ _ (by rfl) w.heap.size 59 i0 _ 3 24 Try.underlying56 hi0 hz0 hz1 hz2 rfl (by omega) u7 z _ (by rfl) ((hown.alloc _).alloc _) ⟨wr.heap.size + 1, 0, none⟩ 1 1 [.int .i64 xc, .int .i64 d, .int .i64 T] (by rfl) (by rfl) (World.news_of_block (cs := #[.int .i64 xc, .int .i64 d, .int .i64 T]) (t := 59) (fr := (0, 0)) (blk2r wr _ _)) (by simp [Value.oneCell']) (by omega) (by unfold maxLen; omega) (by omega) (by simp; omega) (wr.heap.size + 2) (by simp) ?_; intro gg cap w1 hown1 hgrow hat hlt1)
          have hbel1 := Below.grown ((hbel.alloc hsz _).alloc (by simp; omega) _) hgrow (by simp; omega) (fun q hq => (hown.lt q hq).1)
          go_roundw
          case rel => exact ⟨k + 1, z + 1, by omega, by go_num, by rw [HW.out, List.length_append, ← HZ.out]; rfl, by rw [HW.out]; have := own_keep hown1 HZ.out; rw [List.length_append, ← HZ.out] at this; exact this, hbel1⟩
          case measure => simp [intOf]; omega
      · have HW : Hid (withFrom task c (l.take (k + 1)) 0 = m) := by unfold Hid; rw [HS.out, with_drop ⟨xc, d, T⟩ task c k C HCC.out hpos, List.append_nil]
        have hC0 : C = 0 := by omega
        by_cases hkt : k = task
        · have hkd : ((k : Int) == (task : Int)) = true := by simp; omega
          rw [if_pos hkt, hC0] at hC
          subst hC
          clear hkt HCC HS hpos
          go_wp2
          go_roundw
          case rel => exact ⟨k + 1, z, by omega, by go_num, by rw [HW.out]; exact HZ.out, by rw [HW.out]; exact hown.alloc _, hbel.alloc hsz _⟩
          case measure => simp [intOf]; omega
        · have hkd : ((k : Int) == (task : Int)) = false := by simp; omega
          rw [if_neg hkt, hC0] at hC
          subst hC
          clear hkt HCC HS hpos
          go_wp2
          go_roundw
          case rel => exact ⟨k + 1, z, by omega, by go_num, by rw [HW.out]; exact HZ.out, by rw [HW.out]; exact hown.alloc _, hbel.alloc hsz _⟩
          case measure => simp [intOf]; omega
    · have e : l.take k = l := List.take_of_length_le (by rw [← HN.out]; omega)
      rw [e] at hz hown
      clear e
      go_wp2
      go_ret
      refine ⟨u7, rfl, ?_, hbel⟩
      unfold withC
      rw [← hz]
      exact hown
end Go.Proofs.Ytbeclgilglepeaa
