import Derived.Test.YtdhofmnidlhjpaaLSpecT
import Derived.BigRegion
namespace Go.Proofs.Ytdhofmnidlhjpaa
open Go.RowKit

/-- The book in memory: what is left, and the deadlines, of up to nine tasks. -/
structure BK (w : World) (p : Nat) (lf du : Nat → Nat) : Prop where
  hp : p < w.heap.size
  left : ∀ i, i < 9 → w.cell? ⟨p, i, none⟩ = some (.int .i64 (lf i))
  due : ∀ i, i < 9 → w.cell? ⟨p, 9 + i, none⟩ = some (.int .i64 (du i))
  fz : ∀ j, w.frozen? ⟨p, j, none⟩ = false

theorem BK.drewN {w : World} {p : Nat} {lf du : Nat → Nat} (h : BK w p lf du) (q : Nat) : BK (w.drewN q) p lf du := ⟨h.hp, h.left, h.due, h.fz⟩
theorem BK.setLeft {w : World} {p : Nat} {lf du : Nat → Nat} (h : BK w p lf du) (k v : Nat) (hk : k < 9) : BK (w.setCell ⟨p, k, none⟩ (.int .i64 v)) p (upd lf k v) du := by
  refine ⟨by rw [size_setCell]; exact h.hp, fun i hi => ?_, fun i hi => ?_, fun j => by rw [frozen_setCell]; exact h.fz j⟩
  · by_cases e : i = k
    · subst e; rw [World.cell?_setCell_same _ _ _ (h.left i hi), upd_same]
    · rw [cell_other _ _ _ _ _ _ (by omega), h.left i hi, upd_other _ _ _ _ e]
  · rw [cell_other _ _ _ _ _ _ (by omega)]; exact h.due i hi
theorem BK.setDue {w : World} {p : Nat} {lf du : Nat → Nat} (h : BK w p lf du) (k v : Nat) (hk : k < 9) : BK (w.setCell ⟨p, 9 + k, none⟩ (.int .i64 v)) p lf (upd du k v) := by
  refine ⟨by rw [size_setCell]; exact h.hp, fun i hi => ?_, fun i hi => ?_, fun j => by rw [frozen_setCell]; exact h.fz j⟩
  · rw [cell_other _ _ _ _ _ _ (by omega)]; exact h.left i hi
  · by_cases e : i = k
    · subst e; rw [World.cell?_setCell_same _ _ _ (h.due i hi), upd_same]
    · rw [cell_other _ _ _ _ _ _ (by omega), h.due i hi, upd_other _ _ _ _ e]
theorem BK.later {w w' : World} {p B : Nat} {lf du : Nat → Nat} (h : BK w p lf du) (hb : Below B w w') (hB : p < B) : BK w' p lf du := by
  refine ⟨Nat.lt_of_lt_of_le h.hp hb.size, fun i hi => ?_, fun i hi => ?_, fun j => ?_⟩
  · rw [hb.cell (p := ⟨p, i, none⟩) hB]; exact h.left i hi
  · rw [hb.cell (p := ⟨p, 9 + i, none⟩) hB]; exact h.due i hi
  · rw [hb.frozen (p := ⟨p, j, none⟩) hB]; exact h.fz j

/-- What 'worked' leaves: the world but for the book. -/
def BKonly (p : Nat) (w w' : World) : Prop := Below p w w' ∧ w'.heap.size = w.heap.size ∧ ∀ b, b ≠ p → w'.heap[b]? = w.heap[b]?

theorem bkonly_drewN (p q : Nat) (w : World) : BKonly p w (w.drewN q) := ⟨belN (Below.refl _ _) q, rfl, fun _ _ => rfl⟩
theorem bkonly_set (p j q : Nat) (w : World) (v : Value) : BKonly p w ((w.setCell ⟨p, j, none⟩ v).drewN q) := by
  refine ⟨belN ((Below.refl p w).setCell (p := ⟨p, j, none⟩) (Nat.le_refl _) _) q, size_setCell _ _ _, fun b hb => ?_⟩
  exact Below.heap_setCell _ _ _ _ hb
theorem bkonly_trans {p : Nat} {a b c : World} (h : BKonly p a b) (k : BKonly p b c) : BKonly p a c :=
  ⟨h.1.trans k.1, k.2.1.trans h.2.1, fun i hi => (k.2.2 i hi).trans (h.2.2 i hi)⟩

set_option maxRecDepth 100000 in
set_option maxHeartbeats 1600000 in
/-- A unit in which nothing is worked at. -/
theorem worked_idle (w : World) (p now : Nat) (lf du : Nat → Nat) (h : BK w p lf du) (h0 : ∀ i, i < 8 → lf i = 0) :
    Calls Try.prog 25 #[.pointer (some ⟨p, 0, none⟩), .int .u8 45, .int .i64 now] w fun e w' => e = .returned (.bool true) ∧ w' = w := by
  have HB : Hid (BK w p lf du) := h
  have H0 : Hid (∀ i, i < 8 → lf i = 0) := h0
  clear h h0
  go_enter Try.func25, Try.ntmps25
  go_wp2
  go_loop [9] (fun i => ∃ k : Nat, k ≤ 8 ∧ i = .int .i64 k) (fun i => 8 - (intOf i).toNat)
  case atStart => exact ⟨0, by omega, rfl⟩
  case round =>
    obtain ⟨k, hk, rfl⟩ := hrel
    by_cases hlt : k < 8
    · have hc := HB.out.left k (by omega)
      rw [H0.out k hlt] at hc
      have g0 : (0 : Int) ≤ (k : Int) := by omega
      have g1 : (k : Int) < 9 := by omega
      go_wp2
      go_round
      case rel => exact ⟨k + 1, by omega, by go_num⟩
      case measure => simp [intOf]; omega
    · go_wp2
      go_ret
      exact ⟨rfl, rfl⟩

set_option maxRecDepth 100000 in
set_option maxHeartbeats 1600000 in
theorem digit_one (S : ByteArray) (k d : Nat) (w : World) (hS : S.size ≤ 31) (h : 4 * k + 1 < S.size) (hd : S[4 * k + 1].toNat = d + 48) :
    Calls Try.prog 26 #[.string S, .int .i64 k, .int .i64 1] w fun e w' => e = .returned (.int .i64 d) ∧ w' = w := by
  have hb2 : (S[4 * k + 1].toNat : Int) ≤ 255 := by have := S[4 * k + 1].toNat_lt; omega
  have g0 : (0 : Int) ≤ 4 * (k : Int) + 1 := by omega
  have g1 : 4 * (k : Int) + 1 < (S.size : Int) := by omega
  have t1 : (4 * (k : Int) + 1).toNat = 4 * k + 1 := by omega
  have HD : Hid (S[4 * k + 1].toNat = d + 48) := hd
  clear hd
  go_enter Try.func26, Try.ntmps26
  go_wp2
  go_ret
  exact ⟨ret_int (by have := HD.out; omega), rfl⟩

/-- The loop over the book behind a unit that was worked at. -/
def lateFree (now : Nat) (lf du : Nat → Nat) : Prop := ∀ i, i < 8 → 0 < lf i → now < du i

set_option maxRecDepth 100000 in
set_option maxHeartbeats 1600000 in
theorem worked_done (w : World) (p now k a : Nat) (lf du : Nat → Nat) (h : BK w p lf du) (hk : k < 8) (ha : lf k = a + 1) (hab : a ≤ 9) (hdb : ∀ i, i < 9 → du i ≤ 10000) (hlb : ∀ i, i < 9 → lf i ≤ 9) (_hnow : now ≤ 10000) (hlate : lateFree now (upd lf k a) du) (ha0 : a = 0) :
    Calls Try.prog 25 #[.pointer (some ⟨p, 0, none⟩), .int .u8 (65 + (k : Int)), .int .i64 now] w fun e w' => e = .returned (.bool true) ∧ BK w' p (upd lf k a) du ∧ BKonly p w w' := by
  have hck := h.left k (by omega)
  rw [ha] at hck
  have fz := h.fz k
  have HS : Hid (∀ q, BK ((w.setCell ⟨p, k, none⟩ (.int .i64 (a : Int))).drewN q) p (upd lf k a) du) := fun q => (h.setLeft k a (by omega)).drewN q
  have HL : Hid (lateFree now (upd lf k a) du) := hlate
  have HLB : Hid (∀ i, i < 9 → (upd lf k a) i ≤ 9) := by
    intro i hi
    by_cases e : i = k
    · subst e; rw [upd_same]; exact hab
    · rw [upd_other _ _ _ _ e]; exact hlb i hi
  have HDB : Hid (∀ i, i < 9 → du i ≤ 10000) := hdb
  have hsub : ((a + 1 : Nat) : Int) - 1 = (a : Int) := by omega
  have u1 : IntKind.u8.wrap (65 + (k : Int) - 65) = (k : Int) := by rw [show (65 : Int) + (k : Int) - 65 = (k : Int) by omega]; exact IntWalk.u8_in _ (by omega)
  have g0 : (0 : Int) ≤ (k : Int) := by omega
  have g1 : (k : Int) < 9 := by omega
  have g2 : (k : Int) < 8 := by omega
  subst ha0
  have s1 : (65 : Int) + (k : Int) - 65 = (k : Int) := by omega
  clear h ha hlate hlb hdb
  go_enter Try.func25, Try.ntmps25
  go_wp2_with fail
  go_big_region
  go_wp2_with fail
  have hQ : BK (w.setCell ⟨p, k, none⟩ (.int .i64 0)).drew p (upd lf k 0) du := HS.out 1
  have hO : BKonly p w (w.setCell ⟨p, k, none⟩ (.int .i64 0)).drew := bkonly_set p k 1 w _
  clear HS hck fz
  generalize (w.setCell ⟨p, k, none⟩ (.int .i64 0)).drew = W at *
  obtain ⟨lg, hlg⟩ : ∃ lg, lg = upd lf k 0 := ⟨_, rfl⟩
  rw [← hlg] at hQ HL HLB
  have HG : Hid (lg = upd lf k 0) := hlg
  clear hlg
  have HQ : Hid (BK W p lg du) := hQ
  clear hQ
  go_loop [9] (fun i => ∃ m : Nat, m ≤ 8 ∧ i = .int .i64 m) (fun i => 8 - (intOf i).toNat)
  case atStart => exact ⟨0, by omega, rfl⟩
  case round =>
    obtain ⟨m, hm, rfl⟩ := hrel
    by_cases hlt : m < 8
    · have hc := HQ.out.left m (by omega)
      have hd := HQ.out.due m (by omega)
      have bd := HDB.out m (by omega)
      have bl := HLB.out m (by omega)
      have hll := HL.out m hlt
      obtain ⟨x, hx⟩ : ∃ x, x = lg m := ⟨_, rfl⟩
      obtain ⟨y, hy⟩ : ∃ y, y = du m := ⟨_, rfl⟩
      rw [← hx] at hc bl hll
      rw [← hy] at hd bd hll
      clear hx hy
      have r0 : (0 : Int) ≤ (m : Int) := by omega
      have r1 : (m : Int) < 9 := by omega
      have r2 : ((k : Int) == 8) = false := by simp; omega
      by_cases hx0 : x = 0
      · subst hx0
        clear hll
        go_wp2
        go_round
        case rel => exact ⟨m + 1, by omega, by go_num⟩
        case measure => simp [intOf]; omega
      · have hxp : (0 : Int) < (x : Int) := by omega
        have hyn : (now : Int) < (y : Int) := by have := hll (by omega); omega
        have hyd : decide ((y : Int) ≤ (now : Int)) = false := by simp; omega
        have hxd : decide ((0 : Int) < (x : Int)) = true := by simp; omega
        clear hll hx0
        go_wp2
        go_round
        case rel => exact ⟨m + 1, by omega, by go_num⟩
        case measure => simp [intOf]; omega
    · go_wp2
      go_ret
      exact ⟨rfl, by rw [← HG.out]; exact HQ.out, hO⟩

set_option maxRecDepth 100000 in
set_option maxHeartbeats 1600000 in
theorem worked_more (w : World) (p now k a : Nat) (lf du : Nat → Nat) (h : BK w p lf du) (hk : k < 8) (ha : lf k = a + 1) (ha0 : 0 < a) (hab : a ≤ 9) (hdb : ∀ i, i < 9 → du i ≤ 10000) (hlb : ∀ i, i < 9 → lf i ≤ 9) (_hnow : now ≤ 10000) (hlate : lateFree now (upd lf k a) du) :
    Calls Try.prog 25 #[.pointer (some ⟨p, 0, none⟩), .int .u8 (97 + (k : Int)), .int .i64 now] w fun e w' => e = .returned (.bool true) ∧ BK w' p (upd lf k a) du ∧ BKonly p w w' := by
  have hck := h.left k (by omega)
  rw [ha] at hck
  have fz := h.fz k
  have HS : Hid (∀ q, BK ((w.setCell ⟨p, k, none⟩ (.int .i64 (a : Int))).drewN q) p (upd lf k a) du) := fun q => (h.setLeft k a (by omega)).drewN q
  have HL : Hid (lateFree now (upd lf k a) du) := hlate
  have HLB : Hid (∀ i, i < 9 → (upd lf k a) i ≤ 9) := by
    intro i hi
    by_cases e : i = k
    · subst e; rw [upd_same]; exact hab
    · rw [upd_other _ _ _ _ e]; exact hlb i hi
  have HDB : Hid (∀ i, i < 9 → du i ≤ 10000) := hdb
  have hsub : ((a + 1 : Nat) : Int) - 1 = (a : Int) := by omega
  have u1 : IntKind.u8.wrap (97 + (k : Int) - 97) = (k : Int) := by rw [show (97 : Int) + (k : Int) - 97 = (k : Int) by omega]; exact IntWalk.u8_in _ (by omega)
  have g0 : (0 : Int) ≤ (k : Int) := by omega
  have g1 : (k : Int) < 9 := by omega
  have g2 : (k : Int) < 8 := by omega
  have hae : ((a : Int) == 0) = false := by simp; omega
  have s1 : (97 : Int) + (k : Int) - 97 = (k : Int) := by omega
  clear h ha hlate hlb hdb
  go_enter Try.func25, Try.ntmps25
  go_wp2_with fail
  go_big_region
  go_wp2_with fail
  have hQ : BK (w.setCell ⟨p, k, none⟩ (.int .i64 (a : Int))).drew p (upd lf k a) du := HS.out 1
  have hO : BKonly p w (w.setCell ⟨p, k, none⟩ (.int .i64 (a : Int))).drew := bkonly_set p k 1 w _
  clear HS hck fz
  generalize (w.setCell ⟨p, k, none⟩ (.int .i64 (a : Int))).drew = W at *
  obtain ⟨lg, hlg⟩ : ∃ lg, lg = upd lf k a := ⟨_, rfl⟩
  rw [← hlg] at hQ HL HLB
  have HG : Hid (lg = upd lf k a) := hlg
  clear hlg
  have HQ : Hid (BK W p lg du) := hQ
  clear hQ
  go_loop [9] (fun i => ∃ m : Nat, m ≤ 8 ∧ i = .int .i64 m) (fun i => 8 - (intOf i).toNat)
  case atStart => exact ⟨0, by omega, rfl⟩
  case round =>
    obtain ⟨m, hm, rfl⟩ := hrel
    by_cases hlt : m < 8
    · have hc := HQ.out.left m (by omega)
      have hd := HQ.out.due m (by omega)
      have bd := HDB.out m (by omega)
      have bl := HLB.out m (by omega)
      have hll := HL.out m hlt
      obtain ⟨x, hx⟩ : ∃ x, x = lg m := ⟨_, rfl⟩
      obtain ⟨y, hy⟩ : ∃ y, y = du m := ⟨_, rfl⟩
      rw [← hx] at hc bl hll
      rw [← hy] at hd bd hll
      clear hx hy
      have r0 : (0 : Int) ≤ (m : Int) := by omega
      have r1 : (m : Int) < 9 := by omega
      have r2 : ((k : Int) == 8) = false := by simp; omega
      by_cases hx0 : x = 0
      · subst hx0
        clear hll
        go_wp2
        go_round
        case rel => exact ⟨m + 1, by omega, by go_num⟩
        case measure => simp [intOf]; omega
      · have hxp : (0 : Int) < (x : Int) := by omega
        have hyn : (now : Int) < (y : Int) := by have := hll (by omega); omega
        have hyd : decide ((y : Int) ≤ (now : Int)) = false := by simp; omega
        have hxd : decide ((0 : Int) < (x : Int)) = true := by simp; omega
        clear hll hx0
        go_wp2
        go_round
        case rel => exact ⟨m + 1, by omega, by go_num⟩
        case measure => simp [intOf]; omega
    · go_wp2
      go_ret
      exact ⟨rfl, by rw [← HG.out]; exact HQ.out, hO⟩
end Go.Proofs.Ytdhofmnidlhjpaa
