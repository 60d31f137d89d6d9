import Derived.Test.YtdhofmnidlhjpabRHeavy
import Derived.Test.YtdhofmnidlhjpabMath5
namespace Go.Proofs.Ytdhofmnidlhjpab
open Go.RowKit

theorem ev_dot (s : ByteArray) (n k : Nat) (h : k < s.size) (HB : Hid (evOk n s.data.toList = evOk n (s.data.toList.drop k))) (hb : s[k].toNat = 46) : evOk n s.data.toList = evOk n (s.data.toList.drop (k + 1)) := by
  rw [HB.out, List.drop_eq_getElem_cons (by simpa using h)]
  exact evOk_dot n _ _ hb
theorem ev_end (s : ByteArray) (n k : Nat) (h : s.size ≤ k) (HB : Hid (evOk n s.data.toList = evOk n (s.data.toList.drop k))) : evOk n s.data.toList = true := by
  rw [HB.out, List.drop_eq_nil_of_le (by simpa using h)]; rfl
theorem ev_one (s : ByteArray) (n k : Nat) (h : k < s.size) (h2 : ¬ k + 1 < s.size) (HB : Hid (evOk n s.data.toList = evOk n (s.data.toList.drop k))) (hb : ¬ s[k].toNat = 46) : evOk n s.data.toList = false := by
  rw [HB.out, List.drop_eq_getElem_cons (by simpa using h), List.drop_eq_nil_of_le (by simp; omega)]
  exact evOk_one n _ hb
theorem ev_two (s : ByteArray) (n k : Nat) (h : k < s.size) (h2 : k + 1 < s.size) (HB : Hid (evOk n s.data.toList = evOk n (s.data.toList.drop k))) (hb : ¬ s[k].toNat = 46) :
    evOk n s.data.toList = (decide (97 ≤ s[k].toNat) && decide (s[k].toNat - 97 < n) && decide (48 ≤ s[k + 1].toNat) && decide (s[k + 1].toNat ≤ 57) && evOk n (s.data.toList.drop (k + 2))) := by
  rw [HB.out, List.drop_eq_getElem_cons (by simpa using h), List.drop_eq_getElem_cons (by simpa using h2)]
  exact evOk_two n _ _ _ hb

set_option maxRecDepth 100000 in
set_option maxHeartbeats 1600000 in
theorem ref_events (s : ByteArray) (n : Nat) (w : World) (hs : s.size ≤ 9000) (_hn : n ≤ 8) :
    Calls Try.prog 36 #[.string s, .int .i64 n] w fun e w' => e = .returned (.bool (evOk n s.data.toList)) ∧ w' = w := by
  go_enter Try.func36, Try.ntmps36
  go_wp2
  go_loop [5] (fun i => ∃ k : Nat, k ≤ s.size ∧ i = .int .i64 k ∧ evOk n s.data.toList = evOk n (s.data.toList.drop k)) (fun i => s.size - (intOf i).toNat)
  case atStart => exact ⟨0, Nat.zero_le _, rfl, by simp⟩
  case round =>
    obtain ⟨k, hk, rfl, hb⟩ := hrel
    have HB : Hid (evOk n s.data.toList = evOk n (s.data.toList.drop k)) := hb
    clear hb
    by_cases hlt : k < s.size
    · have hb1 := s[k].toNat_lt
      by_cases hdot : s[k].toNat = 46
      · have hd : ((s[k].toNat : Int) == 46) = true := by simp; omega
        have HD : Hid (s[k].toNat = 46) := hdot
        clear hdot
        go_wp2
        go_round
        case rel => exact ⟨k + 1, by omega, by go_num, ev_dot s n k hlt HB HD.out⟩
        case measure => simp [intOf]; omega
      · have hd : ((s[k].toNat : Int) == 46) = false := by simp; omega
        have HD : Hid (¬ s[k].toNat = 46) := hdot
        clear hdot
        by_cases h2 : k + 1 < s.size
        · have hb2 := s[k + 1].toNat_lt
          have HE := ev_two s n k hlt h2 HB HD.out
          by_cases e1 : 97 ≤ s[k].toNat
          · have ew : IntKind.u8.wrap ((s[k].toNat : Int) - 97) = (s[k].toNat : Int) - 97 := IntWalk.u8_in _ (by omega)
            by_cases e2 : s[k].toNat - 97 < n
            · by_cases e3 : 48 ≤ s[k + 1].toNat
              · by_cases e4 : s[k + 1].toNat ≤ 57
                · have HR : Hid (evOk n s.data.toList = evOk n (s.data.toList.drop (k + 2))) := by unfold Hid; rw [HE]; simp [e1, e2, e3, e4]
                  clear HE
                  go_wp2
                  go_round
                  case rel => exact ⟨k + 2, by omega, by go_num, HR.out⟩
                  case measure => simp [intOf]; omega
                · have HR : Hid (evOk n s.data.toList = false) := by unfold Hid; rw [HE]; simp [e4]
                  clear HE
                  go_wp2
                  go_ret
                  exact ⟨ret_boolR HR.out.symm, rfl⟩
              · have HR : Hid (evOk n s.data.toList = false) := by unfold Hid; rw [HE]; simp [e3]
                clear HE
                go_wp2
                go_ret
                exact ⟨ret_boolR HR.out.symm, rfl⟩
            · have HR : Hid (evOk n s.data.toList = false) := by unfold Hid; rw [HE]; simp [e2]
              clear HE
              have e2' : (n : Int) ≤ (s[k].toNat : Int) - 97 := by omega
              go_wp2
              go_ret
              exact ⟨ret_boolR HR.out.symm, rfl⟩
          · have HR : Hid (evOk n s.data.toList = false) := by unfold Hid; rw [HE]; simp [e1]
            clear HE
            go_wp2
            go_ret
            exact ⟨ret_boolR HR.out.symm, rfl⟩
        · have HR : Hid (evOk n s.data.toList = false) := ev_one s n k hlt h2 HB HD.out
          go_wp2
          all_goals go_ret
          all_goals exact ⟨ret_boolR HR.out.symm, rfl⟩
    · have HR : Hid (evOk n s.data.toList = true) := ev_end s n k (by omega) HB
      go_wp2
      go_ret
      exact ⟨ret_boolR HR.out.symm, rfl⟩
end Go.Proofs.Ytdhofmnidlhjpab
