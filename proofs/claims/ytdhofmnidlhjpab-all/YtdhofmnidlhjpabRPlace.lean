import Derived.Test.YtdhofmnidlhjpabChecked
import Derived.Test.YtdhofmnidlhjpabMath
import Derived.WalkKit
import Derived.WalkSpells
import Derived.WalkLawsBesides
import Derived.Deep.QuietTactic
import Derived.BigQuiet
namespace Go.Proofs.Ytdhofmnidlhjpab
open Go.RowKit

theorem ret_int {k : IntKind} {a b : Int} (h : a = b) : Ending.returned (.int k a) = .returned (.int k b) := by rw [h]

theorem okAt_sep {b k : Nat} (h : k % 4 = 3) : okAt b k = (b == 59) := by simp [okAt, h]
theorem okAt_dig {b k : Nat} (h : ¬ k % 4 = 3) : okAt b k = (decide (49 ≤ b) && decide (b ≤ 57)) := by simp [okAt, h]

theorem getL (s : ByteArray) (k : Nat) (h : k < s.size) : s.data.toList[k]'(by simpa using h) = s[k] := rfl

theorem place_step (s : ByteArray) (k : Nat) (h : k < s.size) (HB : Hid (badFrom s.data.toList 0 = badFrom (s.data.toList.drop k) k)) (hok : okAt s[k].toNat k = true) :
    badFrom s.data.toList 0 = badFrom (s.data.toList.drop (k + 1)) (k + 1) := by
  rw [HB.out]; exact badFrom_drop _ k (by simpa using h) hok

theorem place_hit (s : ByteArray) (k : Nat) (h : k < s.size) (HB : Hid (badFrom s.data.toList 0 = badFrom (s.data.toList.drop k) k)) (hok : okAt s[k].toNat k = false) :
    (k : Int) = placeOf s.data.toList := by
  have e : badFrom s.data.toList 0 = some k := by rw [HB.out]; exact badFrom_hit _ k (by simpa using h) hok
  simp [placeOf, e]

theorem place_end (s : ByteArray) (k : Nat) (h : ¬ k < s.size) (HB : Hid (badFrom s.data.toList 0 = badFrom (s.data.toList.drop k) k)) :
    placeOf s.data.toList = if s.size % 4 = 3 then -1 else (s.size : Int) := by
  have e : badFrom s.data.toList 0 = none := by rw [HB.out]; exact badFrom_end _ k (by simp; omega)
  simp [placeOf, e]

theorem okAt_yes {b k : Nat} (h : (k % 4 = 3 ∧ b = 59) ∨ (k % 4 < 3 ∧ 49 ≤ b ∧ b ≤ 57)) : okAt b k = true := by
  unfold okAt; rcases h with ⟨h, e⟩ | ⟨h, e⟩
  · simp [h, e]
  · rw [if_neg (by omega)]; simp [e]
theorem okAt_no {b k : Nat} (h : (k % 4 = 3 ∧ b ≠ 59) ∨ (k % 4 < 3 ∧ ¬ (49 ≤ b ∧ b ≤ 57))) : okAt b k = false := by
  unfold okAt; rcases h with ⟨h, e⟩ | ⟨h, e⟩
  · simp [h, e]
  · rw [if_neg (by omega)]; simp; omega

theorem bne_t {a b : Int} (h : (a != b) = true) : a ≠ b := by simpa using h
theorem bne_f {a b : Int} (h : (a != b) = false) : a = b := by simpa using h

set_option maxHeartbeats 1000000 in
theorem ref_place (s : ByteArray) (w : World) (hs : s.size ≤ 31) :
    Calls Try.prog 35 #[.string s] w fun e w' => e = .returned (.int .i64 (placeOf s.data.toList)) ∧ w' = w := by
  go_enter Try.func35, Try.ntmps35
  go_wp2
  go_loop [3, 4] (fun i _ => ∃ k : Nat, k ≤ s.size ∧ i = .int .i64 k ∧ badFrom s.data.toList 0 = badFrom (s.data.toList.drop k) k) (fun i _ => s.size - (intOf i).toNat)
  case atStart => exact ⟨0, Nat.zero_le _, rfl, by simp⟩
  case round =>
    obtain ⟨k, hk, rfl, hb⟩ := hrel
    have HB : Hid (badFrom s.data.toList 0 = badFrom (s.data.toList.drop k) k) := hb
    clear hb
    by_cases hlt : k < s.size
    · go_wp2
      all_goals first
        | (go_round
           case rel => exact ⟨k + 1, by omega, by go_num, place_step s k hlt HB (okAt_yes (by first | (have := bne_f ‹_›; omega) | omega))⟩
           case measure => simp [intOf]; omega)
        | (go_ret
           exact ⟨ret_int (place_hit s k hlt HB (okAt_no (by first | (have := bne_t ‹_›; omega) | omega))), rfl⟩)
    · go_wp2
      all_goals go_ret
      · exact ⟨ret_int (by rw [place_end s k hlt HB, if_neg (by have := bne_t ‹_›; omega)]), rfl⟩
      · exact ⟨ret_int (by rw [place_end s k hlt HB, if_pos (by have := bne_f ‹_›; omega)]), rfl⟩

end Go.Proofs.Ytdhofmnidlhjpab
