import Derived.Test.YtdhofmnidlhjpabRPlace
namespace Go.Proofs.Ytdhofmnidlhjpab
open Go.RowKit

theorem ret_bool {a b : Bool} (h : a = b) : Ending.returned (.bool a) = .returned (.bool b) := by rw [h]
theorem beq_t {a b : Int} (h : (a == b) = true) : a = b := by simpa using h
theorem beq_f {a b : Int} (h : (a == b) = false) : a ≠ b := by simpa using h

theorem okAt_a {b k : Nat} (h : ((k : Int) % 4 == 3) = true) : ((b : Int) == 59) = okAt b k := by
  have := beq_t h
  rw [okAt_sep (by omega), Bool.eq_iff_iff]; simp; omega
theorem okAt_b {b k : Nat} (h : ((k : Int) % 4 == 3) = false) (h2 : (49 : Int) ≤ b) : decide ((b : Int) ≤ 57) = okAt b k := by
  have := beq_f h
  rw [okAt_dig (by omega), Bool.eq_iff_iff]; simp; omega
theorem okAt_c {b k : Nat} (h : ((k : Int) % 4 == 3) = false) (h2 : (b : Int) < 49) : false = okAt b k := by
  have := beq_f h
  rw [okAt_dig (by omega), Bool.eq_iff_iff]; simp; omega

set_option maxHeartbeats 400000 in
theorem may_stand (b : Nat) (k : Nat) (w : World) (_hb : b < 256) (_hk : k ≤ 31) :
    Calls Try.prog 50 #[.int .u8 b, .int .i64 k] w fun e w' => e = .returned (.bool (okAt b k)) ∧ w' = w := by
  go_enter Try.func50, Try.ntmps50
  go_wp2
  all_goals go_ret
  · exact ⟨ret_bool (okAt_a ‹_›), rfl⟩
  · exact ⟨ret_bool (okAt_b ‹_› ‹_›), rfl⟩
  · exact ⟨ret_bool (okAt_c ‹_› ‹_›), rfl⟩

set_option maxHeartbeats 1000000 in
theorem first_wrong_place (s : ByteArray) (w : World) (hs : s.size ≤ 31) :
    Calls Try.prog 29 #[.string s] w fun e w' => e = .returned (.int .i64 (placeOf s.data.toList)) ∧ w' = w := by
  go_enter Try.func29, Try.ntmps29
  go_wp2
  go_loop [3] (fun i => ∃ k : Nat, k ≤ s.size ∧ i = .int .i64 k ∧ badFrom s.data.toList 0 = badFrom (s.data.toList.drop k) k) (fun i => s.size - (intOf i).toNat)
  case atStart => exact ⟨0, Nat.zero_le _, rfl, by simp⟩
  case round =>
    obtain ⟨k, hk, rfl, hb⟩ := hrel
    have HB : Hid (badFrom s.data.toList 0 = badFrom (s.data.toList.drop k) k) := hb
    clear hb
    by_cases hlt : k < s.size
    · cases hok : okAt s[k].toNat k
      · go_wp2_with (go_at_call 50; refine (may_stand _ _ _ ?_ ?_).mono ?_; (exact s[k].toNat_lt); omega; rintro e w' ⟨rfl, rfl⟩)
        go_ret
        exact ⟨ret_int (place_hit s k hlt HB hok), rfl⟩
      · go_wp2_with (go_at_call 50; refine (may_stand _ _ _ ?_ ?_).mono ?_; (exact s[k].toNat_lt); omega; rintro e w' ⟨rfl, rfl⟩)
        go_round
        case rel => exact ⟨k + 1, by omega, by go_num, place_step s k hlt HB hok⟩
        case measure => simp [intOf]; omega
    · go_wp2
      all_goals go_ret
      · exact ⟨ret_int (by rw [place_end s k hlt HB, if_neg (by have := bne_t ‹_›; omega)]), rfl⟩
      · exact ⟨ret_int (by rw [place_end s k hlt HB, if_pos (by have := bne_f ‹_›; omega)]), rfl⟩
end Go.Proofs.Ytdhofmnidlhjpab
