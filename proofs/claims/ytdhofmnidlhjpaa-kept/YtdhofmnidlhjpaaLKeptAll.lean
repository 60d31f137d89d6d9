import Derived.Test.YtdhofmnidlhjpaaLKept
import Derived.Test.YtdhofmnidlhjpaaLShownAll
namespace Go.Proofs.Ytdhofmnidlhjpaa
open Go.RowKit

theorem set_second (s : ByteArray) (h0 : (checkOf s.data.toList).1 = 0) (i : Nat) (hi : i < (tasksOf s.data.toList).length) :
    ∃ h : 4 * i + 1 < s.size, s[4 * i + 1].toNat = (tkOf (tasksOf s.data.toList) i).d + 48 := by
  have hl := tasksOf_length s.data.toList
  have hsz : s.data.toList.length = s.size := by simp
  rw [hsz] at hl
  have hf := (set_facts s.data.toList h0).1
  have h4 := hf.2
  rw [hsz] at h4
  have h : 4 * i + 1 < s.size := by omega
  refine ⟨h, ?_⟩
  have hd := formed_digit _ hf (4 * i + 1) (by rw [hsz]; exact h) (by omega)
  have hb : s.data.toList[4 * i + 1]'(by rw [hsz]; exact h) = s[4 * i + 1] := rfl
  rw [hb] at hd
  rw [tkOf_get _ i hi]
  have he : (tasksOf s.data.toList)[i] = tkAt s.data.toList i := by simp [tasksOf]
  rw [he]
  unfold tkAt
  simp only [getD_byte s (4 * i + 1) h]
  omega

theorem kept_all (hRun : CodeRun) : KeptT := by
  intro kd N M S E w hkd hN hM hS hE
  unfold opV
  have HR : ∀ w : World, Calls Try.prog 24 #[.string S, .string E] w fun e w' => e = .returned (.tuple #[.string ⟨(runAns S.data.toList E.data.toList).1.toArray⟩, .int .i64 (runAns S.data.toList E.data.toList).2]) ∧ Below w.heap.size w w' := fun w => hRun S E w hS hE
  have hk := freeAns_err S.data.toList E.data.toList
  unfold runAns at HR
  by_cases c0 : (freeAns S.data.toList E.data.toList).2 = 0
  · rw [if_neg (by simp [c0])] at HR
    obtain ⟨o1, o2, o3, o4, o5⟩ := freeAns_ok _ _ c0
    cases hfe : feasB (tasksOf S.data.toList)
    · rw [if_pos hfe] at HR
      exact kept_no 6 N M kd S E w (numT 6 (by unfold i64ok; omega)) rfl HR
    · rw [if_neg (by simp [hfe])] at HR
      rw [o5] at HR
      obtain ⟨k1, k2⟩ := set_okTk _ o3
      exact kept_run N M kd S E _ (tasksOf S.data.toList) w (numT 0 (by unfold i64ok; omega)) HR rfl (feas_all _ k1 k2 hfe) k1 (set_bounds _ o3) (set_facts _ o3).2.1 (by simpa using o2) o4 (by simpa using o1) (set_second S o3)
  · rw [if_pos c0] at HR
    exact kept_no _ N M kd S E w (numT _ (by unfold i64ok; omega)) (by simp [c0]) HR
end Go.Proofs.Ytdhofmnidlhjpaa
