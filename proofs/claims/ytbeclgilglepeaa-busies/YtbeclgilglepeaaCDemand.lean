import Derived.Test.YtbeclgilglepeaaCRead
namespace Go.Proofs.Ytbeclgilglepeaa
open Go.RowKit

set_option maxRecDepth 100000 in
set_option maxHeartbeats 1600000 in
theorem part_of (c d T t : Nat) (w : World) (hc : c ≤ 9) (hd9 : d ≤ 9) (hT : 1 ≤ T) (hT9 : T ≤ 9) (ht : t ≤ 10000) :
    Calls Try.prog 57 #[.agg #[.int .i64 c, .int .i64 d, .int .i64 T], .int .i64 t] w fun e w' => e = .returned (.int .i64 (wantedOne ⟨c, d, T⟩ t)) ∧ Below w.heap.size w w' := by
  by_cases hd : d ≤ t
  · obtain ⟨p1, p2, p3, p4, p5⟩ := part_facts c d T t hc ht hd
    have P5 : Hid ((c : Int) * (((t : Int) - d) / T + 1) = ((c * ((t - d) / T + 1) : Nat) : Int)) := p5
    clear p5
    go_enter Try.func57, Try.ntmps57
    go_wp2
    go_ret
    exact ⟨ret_int (by rw [wantedOne, if_pos hd]; exact P5.out), (Below.refl _ _).alloc (Nat.le_refl _) _⟩
  · have hw : wantedOne ⟨c, d, T⟩ t = 0 := by rw [wantedOne, if_neg hd]
    have HW : Hid (wantedOne ⟨c, d, T⟩ t = 0) := hw
    clear hw
    have hdt : (t : Int) < (d : Int) := by omega
    go_enter Try.func57, Try.ntmps57
    go_wp2
    go_ret
    exact ⟨ret_int (by rw [HW.out]; rfl), (Below.refl _ _).alloc (Nat.le_refl _) _⟩

set_option maxRecDepth 100000 in
set_option maxHeartbeats 1600000 in
theorem wanted_by (ao : Option Addr) (n cap : Nat) (l : List Tk) (t : Nat) (w : World) (hn : n = l.length) (hl : l.length ≤ 8) (hx : ∀ x ∈ l, x.c ≤ 9 ∧ x.d ≤ 9 ∧ 1 ≤ x.t ∧ x.t ≤ 9) (ht : t ≤ 10000) (hH : HoldsA w ao l) :
    Calls Try.prog 33 #[.slice ao n cap, .int .i64 t] w fun e w' => e = .returned (.int .i64 (wanted l t)) ∧ Below w.heap.size w w' := by
  have HN : Hid (n = l.length) := hn
  have hn8 : n ≤ 8 := by omega
  clear hn hl
  go_enter Try.func33, Try.ntmps33
  go_wp2
  go_loopw [5, 6] (fun s i wr => ∃ k : Nat, k ≤ n ∧ i = .int .i64 k ∧ s = .int .i64 (wanted (l.take k) t : Nat) ∧ Below w.heap.size w wr) (fun _ i _ => n - (intOf i).toNat)
  case atStart => exact ⟨0, Nat.zero_le _, rfl, by simp [wanted], Below.refl _ _⟩
  case round =>
    obtain ⟨k, hk, rfl, rfl, hbel⟩ := hrel
    by_cases hlt : k < n
    · have hkl : k < l.length := by rw [← HN.out]; exact hlt
      have hH2 := HoldsA.later hH hbel
      obtain ⟨b, rfl, hb, h0, h1, h2⟩ := hH2 k hkl
      have hb2 := wanted_le (l.take k) t (fun x hx' => (hx x (List.mem_of_mem_take hx')).1)
      have hb3 : (l.take k).length * (9 * (t + 1)) ≤ 8 * (9 * 10001) := Nat.mul_le_mul (by rw [List.length_take]; omega) (by omega)
      have hsn := wanted_snoc l k hkl t
      obtain ⟨fc, fd, ft1, ft2⟩ := hx _ (List.getElem_mem hkl)
      have hwo := wantedOne_le l[k] t fc
      generalize l[k] = x at *
      obtain ⟨c, d, T⟩ := x
      have hct := fun w => part_of c d T t w fc fd ft1 ft2 ht
      generalize wantedOne ⟨c, d, T⟩ t = P at *
      have HC : Hid (∀ w : World, Calls Try.prog 57 #[.agg #[.int .i64 c, .int .i64 d, .int .i64 T], .int .i64 t] w fun e w' => e = .returned (.int .i64 P) ∧ Below w.heap.size w w') := hct
      generalize hS : wanted (l.take k) t = S at *
      generalize hS' : wanted (l.take (k + 1)) t = S' at *
      have HS : Hid (wanted (l.take (k + 1)) t = S') := hS'
      have HX : Hid (S' = S + P) := hsn
      dsimp only at *
      clear hS hsn hS' hH hx hct hH2
      have g0 : (0 : Int) ≤ (k : Int) := by omega
      have g1 : (k : Int) < (n : Int) := by omega
      go_wp2_with (go_at_call 57; refine (HC.out _).mono ?_; rintro e w1 ⟨rfl, hb1⟩)
      go_roundw
      case rel => exact ⟨k + 1, by omega, by go_num, by rw [HS.out, HX.out]; go_num, hbel.trans (hb1.mono hbel.size)⟩
      case measure => simp [intOf]; omega
    · go_wp2
      go_ret
      exact ⟨ret_int (by rw [List.take_of_length_le (by rw [← HN.out]; omega)]), hbel⟩
end Go.Proofs.Ytbeclgilglepeaa
