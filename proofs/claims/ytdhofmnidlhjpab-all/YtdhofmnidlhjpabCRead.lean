import Derived.Test.YtdhofmnidlhjpabCTasks
import Derived.Test.YtdhofmnidlhjpabRCheck
namespace Go.Proofs.Ytdhofmnidlhjpab
open Go.RowKit

set_option maxRecDepth 100000 in
set_option maxHeartbeats 1600000 in
theorem first_wrong_task (ao : Option Addr) (n cap : Nat) (L : List Tk) (w : World) (hn : n = L.length) (hl : L.length ≤ 8) (hH : HoldsA w ao L) :
    Calls Try.prog 31 #[.slice ao n cap] w fun e w' => e = .returned (.int .i64 (match badTask L 0 with | some i => (i : Int) | none => -1)) ∧ ∃ q, w' = w.drewN q := by
  have HN : Hid (n = L.length) := hn
  have hn8 : n ≤ 8 := by omega
  clear hn hl
  have HC : Hid (∀ i : Nat, badTask L 0 = some i → (match badTask L 0 with | some i => (i : Int) | none => -1) = (i : Int)) := fun i h => by rw [h]
  have HO : Hid (badTask L 0 = none → (match badTask L 0 with | some i => (i : Int) | none => -1) = -1) := fun h => by rw [h]
  generalize (match badTask L 0 with | some i => (i : Int) | none => -1) = R at *
  go_enter Try.func31, Try.ntmps31
  go_wp2
  go_loopw [3] (fun i wr => ∃ k q : Nat, k ≤ n ∧ i = .int .i64 k ∧ badTask L 0 = badTask (L.drop k) k ∧ wr = w.drewN q) (fun i _ => n - (intOf i).toNat)
  case atStart => exact ⟨0, 0, Nat.zero_le _, rfl, by simp, rfl⟩
  case round =>
    obtain ⟨k, q, hk, rfl, hb, rfl⟩ := hrel
    have HB : Hid (badTask L 0 = badTask (L.drop k) k) := hb
    clear hb
    by_cases hlt : k < n
    · have hkl : k < L.length := by rw [← HN.out]; exact hlt
      obtain ⟨b, rfl, hb, c0, c1, c2⟩ := hH k hkl
      have hdrop := badTask_drop L k hkl
      have hhit := badTask_hit L k hkl
      generalize L[k] = x at *
      obtain ⟨c, d, T⟩ := x
      have H1 : Hid (wrongTk ⟨c, d, T⟩ = false → badTask (L.drop k) k = badTask (L.drop (k + 1)) (k + 1)) := hdrop
      have H2 : Hid (wrongTk ⟨c, d, T⟩ = true → badTask (L.drop k) k = some k) := hhit
      dsimp only at *
      clear hdrop hhit hH
      have g0 : (0 : Int) ≤ (k : Int) := by omega
      have g1 : (k : Int) < (n : Int) := by omega
      by_cases hg1 : d < c
      · have hd1 : decide (d < c) = true := by simpa using hg1
        go_wp2_with fail
        go_quiet (fail)
        go_wp2
        go_ret
        exact ⟨ret_int (HC.out k (by rw [HB.out]; exact H2.out (by simp [wrongTk]; omega))).symm, _, World.drewN_drewN _ _ _⟩
      · have hd1 : decide (d < c) = false := by simpa using hg1
        by_cases hg2 : T < d
        · have hd2 : decide (T < d) = true := by simpa using hg2
          go_wp2_with fail
          go_quiet (fail)
          go_wp2
          go_ret
          exact ⟨ret_int (HC.out k (by rw [HB.out]; exact H2.out (by simp [wrongTk]; omega))).symm, _, World.drewN_drewN _ _ _⟩
        · have hd2 : decide (T < d) = false := by simpa using hg2
          go_wp2_with fail
          go_quiet (fail)
          go_wp2
          go_roundw
          case rel => exact ⟨k + 1, _, by omega, by go_num, by rw [HB.out]; exact H1.out (by simp [wrongTk]; omega), rfl⟩
          case measure => simp [intOf]; omega
    · go_wp2
      go_ret
      exact ⟨ret_int (HO.out (by rw [HB.out]; exact badTask_end L k (by rw [← HN.out]; omega))).symm, q, rfl⟩

theorem bcell {W w1 : World} (hb : Below W.heap.size W w1) : (∀ b o, b < W.heap.size → w1.cell? ⟨b, o, none⟩ = W.cell? ⟨b, o, none⟩) ∧ (∀ b o, b < W.heap.size → w1.frozen? ⟨b, o, none⟩ = W.frozen? ⟨b, o, none⟩) :=
  ⟨fun b o h => hb.cell (p := ⟨b, o, none⟩) h, fun b o h => hb.frozen (p := ⟨b, o, none⟩) h⟩

/-- The program's reading of a text that is no set, or has a task that may not be. -/
def readNo (s : ByteArray) (w : World) : Prop :=
  Calls Try.prog 12 #[.string s] w fun e w' => e = .returned (.agg #[.slice none 0 0, .int .i64 (checkOf s.data.toList).1, .int .i64 (checkOf s.data.toList).2]) ∧ Below w.heap.size w w'

theorem ret_rd {l : List UInt8} {a b : Int} {v : Value} (h : checkOf l = (a, b)) : Ending.returned (.agg #[v, .int .i64 a, .int .i64 b]) = .returned (.agg #[v, .int .i64 (checkOf l).1, .int .i64 (checkOf l).2]) := by rw [h]

set_option maxRecDepth 100000 in
set_option maxHeartbeats 1600000 in
theorem read_long (s : ByteArray) (w : World) (hs : s.size ≤ maxLen) (h1 : 31 < s.size) : readNo s w := by
  unfold readNo
  unfold maxLen at hs
  have HC : Hid (checkOf s.data.toList = (1, 0)) := checkOf_long s.data.toList (by simpa using h1)
  go_enter Try.func12, Try.ntmps12
  go_wp2
  exact bodyPost_ret (v := .agg #[.slice none 0 0, .int .i64 1, .int .i64 0]) (by simp [results, Try.results12, go_sem]) rfl ⟨ret_rd HC.out, (Below.refl _ _).alloc (Nat.le_refl _) _⟩

set_option maxRecDepth 100000 in
set_option maxHeartbeats 1600000 in
theorem read_place (s : ByteArray) (w : World) (h1 : ¬ 31 < s.size) (h2 : 0 ≤ placeOf s.data.toList) : readNo s w := by
  unfold readNo
  have hc := checkOf_place s.data.toList (by simpa using h1) h2
  have hpl := placeOf_lo s.data.toList
  have hct := first_wrong_place s
  generalize placeOf s.data.toList = p at *
  have HC : Hid (checkOf s.data.toList = (2, p)) := hc
  have HT : Hid (∀ (w : World), s.size ≤ 31 → Calls Try.prog 29 #[.string s] w fun e w' => e = .returned (.int .i64 p) ∧ w' = w) := hct
  have hpl2 : p ≤ 31 := by simp at hpl; omega
  clear hc hpl hct
  go_enter Try.func12, Try.ntmps12
  go_wp2_with (go_at_call 29; refine (HT.out _ (by omega)).mono ?_; rintro e w' ⟨rfl, rfl⟩)
  exact bodyPost_ret (v := .agg #[.slice none 0 0, .int .i64 2, .int .i64 p]) (by simp [results, Try.results12, go_sem]) rfl ⟨ret_rd HC.out, (Below.refl _ _).alloc (Nat.le_refl _) _⟩
end Go.Proofs.Ytdhofmnidlhjpab

namespace Go.Proofs.Ytdhofmnidlhjpab
open Go.RowKit

theorem holds_of_owns' {w : World} {base e : Nat} {ao : Option Addr} {cap : Nat} {l : List Tk} (h : w.ownsRow base e 3 (.slice ao l.length cap) l.length (rowOf l)) : HoldsA w ao l := by
  obtain ⟨ao', cap', hv, hH⟩ := holds_of_owns h
  cases hv
  exact hH

/-- What lies at the address was made from block B on. -/
def LiesFrom (B : Nat) (ao : Option Addr) : Prop := ∀ b, ao = some ⟨b, 0, none⟩ → B ≤ b
theorem LiesFrom.mono {B B' : Nat} {ao : Option Addr} (h : LiesFrom B ao) (hB : B' ≤ B) : LiesFrom B' ao := fun b e => Nat.le_trans hB (h b e)
theorem lies_of_owns {w : World} {base e size n cap : Nat} {ao : Option Addr} {xs : List Value} (h : w.ownsRow base e size (.slice ao n cap) n xs) : LiesFrom base ao := by
  intro b hb
  subst hb
  exact (h.lt b rfl).1

theorem ownsN {w : World} {base e size n : Nat} {v : Value} {xs : List Value} (h : w.ownsRow base e size v n xs) (q : Nat) : (w.drewN q).ownsRow base e size v n xs := h

set_option maxRecDepth 100000 in
set_option maxHeartbeats 1600000 in
theorem read_task (s : ByteArray) (w : World) (h1 : ¬ 31 < s.size) (h2 : ¬ 0 ≤ placeOf s.data.toList) (i : Nat) (h3 : badTask (tasksOf s.data.toList) 0 = some i) : readNo s w := by
  unfold readNo
  have hf := placeOf_neg _ h2
  have hp1 : placeOf s.data.toList = -1 := by have := placeOf_lo s.data.toList; omega
  have HC : Hid (checkOf s.data.toList = (3, (i : Int))) := checkOf_task _ (by simpa using h1) h2 i h3
  have hi := badTask_lt _ _ _ h3
  have hct := first_wrong_place s
  rw [hp1] at hct
  have HT : Hid (∀ (w : World), s.size ≤ 31 → Calls Try.prog 29 #[.string s] w fun e w' => e = .returned (.int .i64 (-1)) ∧ w' = w) := hct
  have htl := tasksOf_length s.data.toList
  have HK := split_tasks s
  generalize tasksOf s.data.toList = L at *
  have hn8 : L.length ≤ 8 := by simp at htl; omega
  have hi8 : i < 8 := by omega
  have HW : Hid (∀ (ao : Option Addr) (n cap : Nat) (w : World), n = L.length → HoldsA w ao L → Calls Try.prog 31 #[.slice ao n cap] w fun e w' => e = .returned (.int .i64 i) ∧ ∃ q, w' = w.drewN q) := by
    intro ao n cap w hn hH
    have := first_wrong_task ao n cap L w hn hn8 hH
    rw [h3] at this
    exact this
  clear h2 hp1 hct htl hi h3
  go_enter Try.func12, Try.ntmps12
  go_wp2_with (first | (go_at_call 29; refine (HT.out _ (by omega)).mono ?_; rintro e w' ⟨rfl, rfl⟩) | fail)
  go_wp2_with fail
  refine (HK _ (by omega) hf).mono ?_
  rintro e w1 ⟨v, rfl, hown, hbel⟩
  obtain ⟨ao, cap, rfl, hH⟩ := holds_of_owns hown
  obtain ⟨n, hn⟩ : ∃ n, n = L.length := ⟨_, rfl⟩
  rw [← hn]
  have HN : Hid (n = L.length) := hn
  clear hown hn8 hn
  obtain ⟨hc, hfz⟩ := bcell hbel
  have hz : w.heap.size + 1 ≤ w1.heap.size := by have := hbel.size; simp at this; omega
  go_wp2_with (go_at_call 31; refine (HW.out _ _ _ _ HN.out hH).mono ?_; rintro e w2 ⟨rfl, q, rfl⟩)
  refine bodyPost_ret (v := .agg #[.slice none 0 0, .int .i64 3, .int .i64 i]) (by simp [results, Try.results12, go_sem, hc]) rfl ⟨ret_rd HC.out, ?_⟩
  exact (((belN (((Below.refl _ _).alloc (Nat.le_refl _) _).trans (hbel.mono (by simp))) q).setCell (Nat.le_refl _) _).setCell (Nat.le_refl _) _).setCell (Nat.le_refl _) _

set_option maxRecDepth 100000 in
set_option maxHeartbeats 1600000 in
theorem read_from (s : ByteArray) (w : World) (h0 : (checkOf s.data.toList).1 = 0) :
    Calls Try.prog 12 #[.string s] w fun e w' => ∃ ao cap, e = .returned (.agg #[.slice ao (tasksOf s.data.toList).length cap, .int .i64 0, .int .i64 0]) ∧ (HoldsA w' ao (tasksOf s.data.toList) ∧ LiesFrom w.heap.size ao) ∧ Below w.heap.size w w' := by
  obtain ⟨h1, hf, h3, hc0⟩ := checkOf_zero _ h0
  have h31 : s.size ≤ 31 := by simpa using h1
  have hp1 : placeOf s.data.toList = -1 := by unfold placeOf; rw [hf.1]; simp only [hf.2]; rfl
  have hct := first_wrong_place s
  rw [hp1] at hct
  have HT : Hid (∀ (w : World), s.size ≤ 31 → Calls Try.prog 29 #[.string s] w fun e w' => e = .returned (.int .i64 (-1)) ∧ w' = w) := hct
  have htl := tasksOf_length s.data.toList
  have HK := split_tasks s
  generalize tasksOf s.data.toList = L at *
  have hn8 : L.length ≤ 8 := by simp at htl; omega
  have HW : Hid (∀ (ao : Option Addr) (n cap : Nat) (w : World), n = L.length → HoldsA w ao L → Calls Try.prog 31 #[.slice ao n cap] w fun e w' => e = .returned (.int .i64 (-1)) ∧ ∃ q, w' = w.drewN q) := by
    intro ao n cap w hn hH
    have := first_wrong_task ao n cap L w hn hn8 hH
    rw [h3] at this
    exact this
  clear h0 hp1 hct htl h3 hc0 h1
  go_enter Try.func12, Try.ntmps12
  go_wp2_with (first | (go_at_call 29; refine (HT.out _ (by omega)).mono ?_; rintro e w' ⟨rfl, rfl⟩) | fail)
  go_wp2_with fail
  refine (HK _ (by omega) hf).mono ?_
  rintro e w1 ⟨v, rfl, hown, hbel⟩
  obtain ⟨ao, cap, rfl, hH⟩ := holds_of_owns hown
  obtain ⟨n, hn⟩ : ∃ n, n = L.length := ⟨_, rfl⟩
  rw [← hn]
  have HN : Hid (n = L.length) := hn
  clear hn8 hn
  obtain ⟨hc, hfz⟩ := bcell hbel
  have hz : w.heap.size + 1 ≤ w1.heap.size := by have := hbel.size; simp at this; omega
  go_wp2_with (go_at_call 31; refine (HW.out _ _ _ _ HN.out hH).mono ?_; rintro e w2 ⟨rfl, q, rfl⟩)
  refine bodyPost_ret (v := .agg #[.slice ao n cap, .int .i64 0, .int .i64 0]) (by simp [results, Try.results12, go_sem, hc]) rfl ⟨ao, cap, by rw [HN.out], ?_, ?_⟩
  · exact ⟨holds_of_owns' (ownsRow_setCell_below (ownsRow_setCell_below (ownsRow_setCell_below (ownsN hown q) (by simp) _) (by simp) _) (by simp) _), (lies_of_owns hown).mono (by simp)⟩
  · exact (((belN (((Below.refl _ _).alloc (Nat.le_refl _) _).trans (hbel.mono (by simp))) q).setCell (Nat.le_refl _) _).setCell (Nat.le_refl _) _).setCell (Nat.le_refl _) _

theorem read_ok (s : ByteArray) (w : World) (h0 : (checkOf s.data.toList).1 = 0) :
    Calls Try.prog 12 #[.string s] w fun e w' => ∃ ao cap, e = .returned (.agg #[.slice ao (tasksOf s.data.toList).length cap, .int .i64 0, .int .i64 0]) ∧ HoldsA w' ao (tasksOf s.data.toList) ∧ Below w.heap.size w w' := by
  refine (read_from s w h0).mono ?_
  rintro e w' ⟨ao, cap, he, hH, hb⟩
  exact ⟨ao, cap, he, hH.1, hb⟩
end Go.Proofs.Ytdhofmnidlhjpab

namespace Go.Proofs.Ytdhofmnidlhjpab
open Go.RowKit

set_option maxRecDepth 100000 in
set_option maxHeartbeats 1600000 in
theorem part_of (c d T t : Nat) (w : World) (hc : c ≤ 9) (hd9 : d ≤ 9) (hT : 1 ≤ T) (hT9 : T ≤ 9) (ht : t ≤ 10000) :
    Calls Try.prog 51 #[.agg #[.int .i64 c, .int .i64 d, .int .i64 T], .int .i64 t] w fun e w' => e = .returned (.int .i64 (wantedOne ⟨c, d, T⟩ t)) ∧ Below w.heap.size w w' := by
  by_cases hd : d ≤ t
  · obtain ⟨p1, p2, p3, p4, p5⟩ := part_facts c d T t hc ht hd
    have P5 : Hid ((c : Int) * (((t : Int) - d) / T + 1) = ((c * ((t - d) / T + 1) : Nat) : Int)) := p5
    clear p5
    go_enter Try.func51, Try.ntmps51
    go_wp2
    go_ret
    exact ⟨ret_int (by rw [wantedOne, if_pos hd]; exact P5.out), (Below.refl _ _).alloc (Nat.le_refl _) _⟩
  · have hw : wantedOne ⟨c, d, T⟩ t = 0 := by rw [wantedOne, if_neg hd]
    have HW : Hid (wantedOne ⟨c, d, T⟩ t = 0) := hw
    clear hw
    have hdt : (t : Int) < (d : Int) := by omega
    go_enter Try.func51, Try.ntmps51
    go_wp2
    go_ret
    exact ⟨ret_int (by rw [HW.out]; rfl), (Below.refl _ _).alloc (Nat.le_refl _) _⟩

set_option maxRecDepth 100000 in
set_option maxHeartbeats 1600000 in
theorem wanted_by (ao : Option Addr) (n cap : Nat) (l : List Tk) (t : Nat) (w : World) (hn : n = l.length) (hl : l.length ≤ 8) (hx : ∀ x ∈ l, x.c ≤ 9 ∧ x.d ≤ 9 ∧ 1 ≤ x.t ∧ x.t ≤ 9) (ht : t ≤ 10000) (hH : HoldsA w ao l) :
    Calls Try.prog 32 #[.slice ao n cap, .int .i64 t] w fun e w' => e = .returned (.int .i64 (wanted l t)) ∧ Below w.heap.size w w' := by
  have HN : Hid (n = l.length) := hn
  have hn8 : n ≤ 8 := by omega
  clear hn hl
  go_enter Try.func32, Try.ntmps32
  go_wp2
  go_loopw [5, 6] (fun s i wr => ∃ k : Nat, k ≤ n ∧ i = .int .i64 k ∧ s = .int .i64 (wanted (l.take k) t : Nat) ∧ Below w.heap.size w wr) (fun _ i _ => n - (intOf i).toNat)
  case atStart => exact ⟨0, Nat.zero_le _, rfl, by simp [wanted], Below.refl _ _⟩
  case round =>
    obtain ⟨k, hk, rfl, rfl, hbel⟩ := hrel
    by_cases hlt : k < n
    · have hkl : k < l.length := by rw [← HN.out]; exact hlt
      have hH2 := HoldsA.later hH hbel
      obtain ⟨b, rfl, hb, h0, h1, h2⟩ := hH2 k hkl
      have hb2 := wanted_le (l.take k) t (fun x hx' => (hx x (List.mem_of_mem_take hx')).1)
      have hb3 : (l.take k).length * (9 * (t + 1)) ≤ 8 * (9 * 10001) := Nat.mul_le_mul (by rw [List.length_take]; omega) (by omega)
      have hsn := wanted_snoc l k hkl t
      obtain ⟨fc, fd, ft1, ft2⟩ := hx _ (List.getElem_mem hkl)
      have hwo := wantedOne_le l[k] t fc
      generalize l[k] = x at *
      obtain ⟨c, d, T⟩ := x
      have hct := fun w => part_of c d T t w fc fd ft1 ft2 ht
      generalize wantedOne ⟨c, d, T⟩ t = P at *
      have HC : Hid (∀ w : World, Calls Try.prog 51 #[.agg #[.int .i64 c, .int .i64 d, .int .i64 T], .int .i64 t] w fun e w' => e = .returned (.int .i64 P) ∧ Below w.heap.size w w') := hct
      generalize hS : wanted (l.take k) t = S at *
      generalize hS' : wanted (l.take (k + 1)) t = S' at *
      have HS : Hid (wanted (l.take (k + 1)) t = S') := hS'
      have HX : Hid (S' = S + P) := hsn
      dsimp only at *
      clear hS hsn hS' hH hx hct hH2
      have g0 : (0 : Int) ≤ (k : Int) := by omega
      have g1 : (k : Int) < (n : Int) := by omega
      go_wp2_with (go_at_call 51; refine (HC.out _).mono ?_; rintro e w1 ⟨rfl, hb1⟩)
      go_roundw
      case rel => exact ⟨k + 1, by omega, by go_num, by rw [HS.out, HX.out]; go_num, hbel.trans (hb1.mono hbel.size)⟩
      case measure => simp [intOf]; omega
    · go_wp2
      go_ret
      exact ⟨ret_int (by rw [List.take_of_length_le (by rw [← HN.out]; omega)]), hbel⟩
end Go.Proofs.Ytdhofmnidlhjpab
