import Derived.Test.YtdhofmnidlhjpabTEvents
import Derived.Test.YtdhofmnidlhjpabCTasks
import Derived.Test.YtdhofmnidlhjpabCRead
import Derived.Test.YtdhofmnidlhjpabMathE
namespace Go.Proofs.Ytdhofmnidlhjpab
open Go.RowKit

/-- The cells of an event; of several. -/
def evCells (e : Ev) : List Value := [.bool e.unit, .int .i64 e.task, .int .i64 e.work]
def rowE : List Ev → List Value
  | [] => []
  | e :: r => evCells e ++ rowE r

theorem rowE_append (a b : List Ev) : rowE (a ++ b) = rowE a ++ rowE b := by
  induction a with
  | nil => rfl
  | cons e r ih => simp only [List.cons_append, rowE, ih, List.append_assoc]

/-- From the address on lie the cells of the events. -/
def HoldsE (w : World) (ao : Option Addr) (l : List Ev) : Prop :=
  ∀ i, (h : i < l.length) → ∃ b, ao = some ⟨b, 0, none⟩ ∧ b < w.heap.size ∧ w.cell? ⟨b, i * 3, none⟩ = some (.bool l[i].unit) ∧ w.cell? ⟨b, i * 3 + 1, none⟩ = some (.int .i64 l[i].task) ∧ w.cell? ⟨b, i * 3 + 2, none⟩ = some (.int .i64 l[i].work)

theorem rowE_at (l : List Ev) : ∀ i, (h : i < l.length) → (rowE l)[i * 3]? = some (.bool l[i].unit) ∧ (rowE l)[i * 3 + 1]? = some (.int .i64 l[i].task) ∧ (rowE l)[i * 3 + 2]? = some (.int .i64 l[i].work) := by
  induction l with
  | nil => intro i h; simp at h
  | cons x r ih =>
    intro i h
    cases i with
    | zero => simp [rowE, evCells]
    | succ i =>
      have := ih i (by simpa using h)
      simp only [rowE, evCells, Nat.succ_mul, List.cons_append, List.nil_append]
      simpa [Nat.add_assoc] using this

theorem holdsE_of_owns {w : World} {base e : Nat} {v : Value} {l : List Ev} (h : w.ownsRow base e 3 v l.length (rowE l)) :
    ∃ ao cap, v = .slice ao l.length cap ∧ HoldsE w ao l := by
  rcases Nat.eq_zero_or_pos l.length with h0 | h0
  · rcases h.2 with ⟨hv, _⟩ | ⟨g, cap, cur, hv, _⟩
    · exact ⟨none, 0, by rw [hv, h0], fun i hi => by omega⟩
    · exact ⟨_, cap, hv, fun i hi => by omega⟩
  · obtain ⟨g, cap, rfl, hb, hg⟩ := h.form h0
    refine ⟨_, cap, rfl, fun i hi => ⟨g, rfl, hg, ?_⟩⟩
    have := rowE_at l i hi
    rw [h.cellAt _ (by omega), h.cellAt _ (by omega), h.cellAt _ (by omega)]
    exact this

theorem HoldsE.later {w w' : World} {ao : Option Addr} {l : List Ev} (h : HoldsE w ao l) (hb : Below w.heap.size w w') : HoldsE w' ao l := by
  intro i hi
  obtain ⟨b, h1, h2, h3, h4, h5⟩ := h i hi
  have hz := hb.size
  refine ⟨b, h1, by omega, ?_, ?_, ?_⟩
  · rw [hb.cell (p := ⟨b, i * 3, none⟩) h2]; exact h3
  · rw [hb.cell (p := ⟨b, i * 3 + 1, none⟩) h2]; exact h4
  · rw [hb.cell (p := ⟨b, i * 3 + 2, none⟩) h2]; exact h5

/-- Are two bytes a job of one of n tasks? -/
def jobB (x y n : Nat) : Bool := decide (97 ≤ x) && decide (x - 97 < n) && decide (48 ≤ y) && decide (y ≤ 57)

set_option maxRecDepth 100000 in
set_option maxHeartbeats 1600000 in
theorem is_job (x y n : Nat) (w : World) (hx : x < 256) (hy : y < 256) :
    Calls Try.prog 73 #[.int .u8 x, .int .u8 y, .int .i64 n] w fun e w' => e = .returned (.bool (jobB x y n)) ∧ w' = w := by
  by_cases e1 : 97 ≤ x
  · have f1 : (97 : Int) ≤ (x : Int) := by omega
    by_cases e2 : x - 97 < n
    · have f2 : (x : Int) - 97 < (n : Int) := by omega
      have HR : Hid (jobB x y n = (decide (48 ≤ y) && decide (y ≤ 57))) := by unfold Hid jobB; simp [e1, e2]
      clear e1 e2
      by_cases e3 : 48 ≤ y
      · have f3 : (48 : Int) ≤ (y : Int) := by omega
        by_cases e4 : y ≤ 57
        · have f4 : (y : Int) ≤ 57 := by omega
          have HS : Hid (jobB x y n = true) := by unfold Hid; rw [HR.out]; simp [e3, e4]
          clear e3 e4 HR
          go_enter Try.func73, Try.ntmps73
          go_wp2
          go_ret
          exact ⟨ret_boolR HS.out.symm, rfl⟩
        · have f4 : ¬ (y : Int) ≤ 57 := by omega
          have HS : Hid (jobB x y n = false) := by unfold Hid; rw [HR.out]; simp [e4]
          clear e3 e4 HR
          go_enter Try.func73, Try.ntmps73
          go_wp2
          go_ret
          exact ⟨ret_boolR HS.out.symm, rfl⟩
      · have f3 : (y : Int) < 48 := by omega
        have HS : Hid (jobB x y n = false) := by unfold Hid; rw [HR.out]; simp [e3]
        clear e3 HR
        go_enter Try.func73, Try.ntmps73
        go_wp2
        go_ret
        exact ⟨ret_boolR HS.out.symm, rfl⟩
    · have f2 : (n : Int) ≤ (x : Int) - 97 := by omega
      have HS : Hid (jobB x y n = false) := by unfold Hid jobB; simp [e2]
      clear e1 e2
      go_enter Try.func73, Try.ntmps73
      go_wp2
      go_ret
      exact ⟨ret_boolR HS.out.symm, rfl⟩
  · have f1 : (x : Int) < 97 := by omega
    have HS : Hid (jobB x y n = false) := by unfold Hid jobB; simp [e1]
    clear e1
    go_enter Try.func73, Try.ntmps73
    go_wp2
    go_ret
    exact ⟨ret_boolR HS.out.symm, rfl⟩
end Go.Proofs.Ytdhofmnidlhjpab

namespace Go.Proofs.Ytdhofmnidlhjpab
open Go.RowKit

theorem Try.infoCEvent : (Try.prog.info? 99).map (fun i => (i.zero, i.size, i.bytes)) = some (some (.agg #[.bool false, .int .i64 0, .int .i64 0]), 3, 24) := by kernel_rfl

theorem rowE_snoc (l : List Ev) (e : Ev) : rowE l ++ [.bool e.unit, .int .i64 e.task, .int .i64 e.work] = rowE (l ++ [e]) := by
  rw [rowE_append]; rfl

theorem rowE_job (l : List Ev) (x y : Nat) (h1 : 97 ≤ x) (h2 : 48 ≤ y) : rowE l ++ [.bool false, .int .i64 ((x : Int) - 97), .int .i64 ((y : Int) - 48)] = rowE (l ++ [⟨false, x - 97, y - 48⟩]) := by
  rw [← rowE_snoc]
  simp only
  rw [Int.ofNat_sub h1, Int.ofNat_sub h2]
  rfl
theorem dropE (s : ByteArray) (k : Nat) (h : k < s.size) : s.data.toList.drop k = s[k] :: s.data.toList.drop (k + 1) := by
  rw [List.drop_eq_getElem_cons (by simpa using h)]; rfl
theorem evs_dot (s : ByteArray) (k : Nat) (es : List Ev) (h : k < s.size) (H : evsOf s.data.toList = es ++ evsOf (s.data.toList.drop k)) (hb : s[k].toNat = 46) : evsOf s.data.toList = (es ++ [⟨true, 0, 0⟩]) ++ evsOf (s.data.toList.drop (k + 1)) := by
  rw [H, dropE s k h, evsOf_dot _ _ hb, List.append_assoc]; rfl
theorem evs_two (s : ByteArray) (k : Nat) (es : List Ev) (h : k < s.size) (h2 : k + 1 < s.size) (H : evsOf s.data.toList = es ++ evsOf (s.data.toList.drop k)) (hb : ¬ s[k].toNat = 46) : evsOf s.data.toList = (es ++ [⟨false, s[k].toNat - 97, s[k + 1].toNat - 48⟩]) ++ evsOf (s.data.toList.drop (k + 2)) := by
  rw [H, dropE s k h, dropE s (k + 1) h2, evsOf_two _ _ _ hb, List.append_assoc]; rfl
theorem evs_end (s : ByteArray) (k : Nat) (es : List Ev) (h : s.size ≤ k) (H : evsOf s.data.toList = es ++ evsOf (s.data.toList.drop k)) : evsOf s.data.toList = es := by
  rw [H, List.drop_eq_nil_of_le (by simpa using h)]; simp [evsOf]

/-- What readEvents answers. -/
def ReadE (s : ByteArray) (n : Nat) (w : World) (e : Ending) (w' : World) : Prop :=
  Below w.heap.size w w' ∧ (evOk n s.data.toList = false → e = .returned (.tuple #[.slice none 0 0, .bool false])) ∧
  (evOk n s.data.toList = true → ∃ ao cap, e = .returned (.tuple #[.slice ao (evsOf s.data.toList).length cap, .bool true]) ∧ HoldsE w' ao (evsOf s.data.toList) ∧ LiesFrom w.heap.size ao)

theorem read_bad {s : ByteArray} {n : Nat} {w w' : World} (hb : Below w.heap.size w w') (h : evOk n s.data.toList = false) : ReadE s n w (.returned (.tuple #[.slice none 0 0, .bool false])) w' :=
  ⟨hb, fun _ => rfl, fun h' => (by rw [h] at h'; cases h')⟩
theorem read_good {s : ByteArray} {n : Nat} {w w' : World} {v : Value} {es : List Ev} {e0 : Nat} (hb : Below w.heap.size w w') (h : evOk n s.data.toList = true) (hes : evsOf s.data.toList = es) (ho : w'.ownsRow w.heap.size e0 3 v es.length (rowE es)) : ReadE s n w (.returned (.tuple #[v, .bool true])) w' := by
  refine ⟨hb, fun h' => (by rw [h] at h'; cases h'), fun _ => ?_⟩
  obtain ⟨ao, cap, rfl, hH⟩ := holdsE_of_owns ho
  exact ⟨ao, cap, by rw [hes], by rw [hes]; exact hH, lies_of_owns ho⟩

set_option maxRecDepth 100000 in
set_option maxHeartbeats 3200000 in
theorem read_events (s : ByteArray) (n : Nat) (w : World) (hs : s.size ≤ 9000) (hn : n ≤ 8) :
    Calls Try.prog 60 #[.string s, .int .i64 n] w fun e w' => ReadE s n w e w' := by
  obtain ⟨i0, hi0, hz0, hz1, hz2⟩ := info_parts Try.infoCEvent
  go_enter Try.func60, Try.ntmps60
  go_wp2
  go_loopw [6, 7, 8] (fun v i _ wr => ∃ (k m : Nat) (es : List Ev), k ≤ s.size ∧ m = es.length ∧ m ≤ k ∧ i = .int .i64 k ∧ wr.ownsRow w.heap.size 99 3 v m (rowE es) ∧ Below w.heap.size w wr ∧ evOk n s.data.toList = evOk n (s.data.toList.drop k) ∧ evsOf s.data.toList = es ++ evsOf (s.data.toList.drop k)) (fun _ i _ _ => s.size - (intOf i).toNat)
  case atStart => exact ⟨0, 0, [], Nat.zero_le _, rfl, Nat.zero_le _, rfl, World.ownsRow_nil _ _ _ _, Below.refl _ _, by simp, by simp⟩
  case round =>
    obtain ⟨k, m, es, hk, hm, hmk, rfl, hown, hbel, hb, hv⟩ := hrel
    have HB : Hid (evOk n s.data.toList = evOk n (s.data.toList.drop k)) := hb
    have HV : Hid (evsOf s.data.toList = es ++ evsOf (s.data.toList.drop k)) := hv
    have HM : Hid (m = es.length) := hm
    have hsz := hbel.size
    clear hb hv hm
    by_cases hlt : k < s.size
    · have hb1 := s[k].toNat_lt
      by_cases hdot : s[k].toNat = 46
      · have hd : ((s[k].toNat : Int) == 46) = true := by simp; omega
        have HD : Hid (s[k].toNat = 46) := hdot
        clear hdot
        go_wp2_with (at_builtin; refine wpList_append_lies _ (by rfl) _ _ _ (by rfl) w.heap.size 99 i0 _ 3 24 Try.underlying76 hi0 hz0 hz1 hz2 rfl (by omega) u6 m _ (by rfl) (hown.alloc _) ⟨wr.heap.size, 0, none⟩ 1 1 [.bool true, .int .i64 0, .int .i64 0] (by rfl) (by rfl) (World.news_of_block (cs := #[.bool true, .int .i64 0, .int .i64 0]) (t := 99) (fr := (0, 0)) (heap_alloc_new wr _)) (by simp [Value.oneCell']) (by omega) (by unfold maxLen; omega) (by omega) (by simp; omega) (wr.heap.size + 1) (by simp) ?_; intro gg cap w1 hown1 hgrow hat hlt1)
        have hbel1 := Below.grown (hbel.alloc hsz _) hgrow (by simp; omega) (fun q hq => (hown.lt q hq).1)
        go_roundw
        case rel => exact ⟨k + 1, m + 1, es ++ [⟨true, 0, 0⟩], by omega, by rw [HM.out]; simp, by omega, by go_num, by rw [← rowE_snoc]; exact hown1, hbel1, ev_dot s n k hlt HB HD.out, evs_dot s k es hlt HV.out HD.out⟩
        case measure => simp [intOf]; omega
      · have hd : ((s[k].toNat : Int) == 46) = false := by simp; omega
        have HD : Hid (¬ s[k].toNat = 46) := hdot
        clear hdot
        by_cases h2 : k + 1 < s.size
        · have hb2 := s[k + 1].toNat_lt
          have HE : Hid (evOk n s.data.toList = (jobB s[k].toNat s[k + 1].toNat n && evOk n (s.data.toList.drop (k + 2)))) := ev_two s n k hlt h2 HB HD.out
          have e1 : IntKind.i64.wrap ((k : Int) + 1) = (k : Int) + 1 := IntWalk.i64_in _ (by omega)
          have hg1 : decide ((s.size : Int) ≤ IntKind.i64.wrap ((k : Int) + 1)) = false := by rw [e1]; simp; omega
          have hg2 : decide ((s.size : Int) ≤ (k : Int) + 1) = false := by simp; omega
          have i1 : (0 : Int) ≤ (k : Int) := by omega
          have i2 : (k : Int) < (s.size : Int) := by omega
          have i3 : (0 : Int) ≤ (k : Int) + 1 := by omega
          have i4 : (k : Int) + 1 < (s.size : Int) := by omega
          have HJ := fun w => is_job s[k].toNat s[k + 1].toNat n w hb1 hb2
          cases hj : jobB s[k].toNat s[k + 1].toNat n
          · rw [hj] at HJ HE
            have HR : Hid (evOk n s.data.toList = false) := by unfold Hid; rw [HE.out]; rfl
            clear HE hj
            go_wp2_with fail
            go_region_held3 (fun w' => w.heap.size ≤ w'.heap.size) (first | (simp; omega))
              ((go_at_call 73; refine (HJ _).mono ?_; rintro e w2 ⟨rfl, rfl⟩))
            all_goals go_wp2_with fail
            all_goals go_ret2
            all_goals exact read_bad hbel.drew HR.out
          · rw [hj] at HJ HE
            have HR : Hid (evOk n s.data.toList = evOk n (s.data.toList.drop (k + 2))) := by unfold Hid; rw [HE.out]; rfl
            simp only [jobB, Bool.and_eq_true, decide_eq_true_eq] at hj
            obtain ⟨⟨⟨a1, a2⟩, a3⟩, a4⟩ := hj
            have b1 : s[k].toNat ≤ 104 := by omega
            have q0 : IntKind.u8.wrap ((s[k].toNat : Int) - 97) = (s[k].toNat : Int) - 97 := IntWalk.u8_in _ (by omega)
            have q1 : IntKind.u8.wrap ((s[k + 1].toNat : Int) - 48) = (s[k + 1].toNat : Int) - 48 := IntWalk.u8_in _ (by omega)
            have q2 : IntKind.i64.wrap ((s[k].toNat : Int) - 97) = (s[k].toNat : Int) - 97 := IntWalk.i64_in _ (by omega)
            have q3 : IntKind.i64.wrap ((s[k + 1].toNat : Int) - 48) = (s[k + 1].toNat : Int) - 48 := IntWalk.i64_in _ (by omega)
            clear HE a2
            go_wp2_with fail
            go_region_held3 (fun w' => w.heap.size ≤ w'.heap.size) (first | (simp; omega))
              ((go_at_call 73; refine (HJ _).mono ?_; rintro e w2 ⟨rfl, rfl⟩))
            all_goals go_wp2_with fail
            all_goals
              have hown' := hown.drew
              have hbel' := hbel.drew
              have hsz' : w.heap.size ≤ wr.drew.heap.size := hsz
              clear hown hbel hsz HJ
              generalize wr.drew = W at *
              go_big_region
              clear q0 q1 q2 q3
              go_wp2_with (at_builtin; refine wpList_append_lies _ (by rfl) _ _ _ (by rfl) w.heap.size 99 i0 _ 3 24 Try.underlying76 hi0 hz0 hz1 hz2 rfl (by omega) u6 m _ (by rfl) (((hown'.alloc _).alloc _).drew) ⟨W.heap.size + 1, 0, none⟩ 1 1 [.bool false, .int .i64 (s[k].toNat - 97), .int .i64 (s[k + 1].toNat - 48)] (by rfl) (by rfl) (World.news_of_block (cs := #[.bool false, .int .i64 (s[k].toNat - 97), .int .i64 (s[k + 1].toNat - 48)]) (t := 99) (fr := (0, 0)) (blk2 W _ _)) (by simp [Value.oneCell']) (by omega) (by unfold maxLen; omega) (by omega) (by simp; omega) (W.heap.size + 2) (by simp) ?_; intro gg cap w1 hown1 hgrow hat hlt1)
              have hbel1 := Below.grown (((hbel'.alloc hsz' _).alloc (by simp; omega) _).drew) hgrow (by simp; omega) (fun q hq => (hown'.lt q hq).1)
              rw [rowE_job es _ _ a1 a3] at hown1
              go_roundw
              case rel => exact ⟨k + 2, m + 1, _, by omega, by rw [HM.out]; simp, by omega, by go_num, hown1, hbel1, HR.out, evs_two s k es hlt h2 HV.out HD.out⟩
              case measure => simp [intOf]; omega
        · have HR : Hid (evOk n s.data.toList = false) := ev_one s n k hlt h2 HB HD.out
          have e1 : IntKind.i64.wrap ((k : Int) + 1) = (k : Int) + 1 := IntWalk.i64_in _ (by omega)
          have hg1 : decide ((s.size : Int) ≤ IntKind.i64.wrap ((k : Int) + 1)) = true := by rw [e1]; simp; omega
          have hg2 : decide ((s.size : Int) ≤ (k : Int) + 1) = true := by simp; omega
          go_wp2_with fail
          go_quiet (fail)
          go_wp2
          go_ret2
          exact read_bad (belN hbel _) HR.out
    · have HR : Hid (evOk n s.data.toList = true) := ev_end s n k (by omega) HB
      go_wp2
      go_ret2
      exact read_good hbel HR.out (evs_end s k es (by omega) HV.out) (by rw [← HM.out]; exact hown)
end Go.Proofs.Ytdhofmnidlhjpab
