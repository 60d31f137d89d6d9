import Derived.Test.YtdhofmnidlhjpabCTrace
import Derived.Test.YtdhofmnidlhjpabCCalls2
import Derived.Test.YtdhofmnidlhjpabLSpecT
import Derived.Test.YtdhofmnidlhjpabMath7
namespace Go.Proofs.Ytdhofmnidlhjpab
open Go.RowKit

/-- What Run and Free are asked cannot be read. -/
def QNo (s ev : ByteArray) (w : World) (c : Int) : Prop :=
  Calls Try.prog 44 #[.string s, .string ev] w fun e w' => e = .returned (.agg #[.slice none 0 0, .slice none 0 0, .int .i64 c]) ∧ Below w.heap.size w w'

theorem q_bel1 {w w1 : World} {o : Obj} (hb : Below (w.alloc o).heap.size (w.alloc o) w1) : Below w.heap.size w w1 := ((Below.refl _ _).alloc (Nat.le_refl _) _).trans (hb.mono (by simp))

/-- A cell that lies aside is written. -/
theorem HoldsA.aside {w : World} {B r : Nat} {ao : Option Addr} {l : List Tk} (h : HoldsA w ao l) (hl : LiesFrom B ao) (hr : r < B) (o : Nat) (v : Value) : HoldsA (w.setCell ⟨r, o, none⟩ v) ao l := by
  intro i hi
  obtain ⟨b, h1, h2, h3, h4, h5⟩ := h i hi
  have hb := hl b h1
  refine ⟨b, h1, by rw [size_setCell]; exact h2, ?_, ?_, ?_⟩
  · rw [cell_other _ _ _ _ _ _ (by omega)]; exact h3
  · rw [cell_other _ _ _ _ _ _ (by omega)]; exact h4
  · rw [cell_other _ _ _ _ _ _ (by omega)]; exact h5
theorem HoldsE.aside {w : World} {B r : Nat} {ao : Option Addr} {l : List Ev} (h : HoldsE w ao l) (hl : LiesFrom B ao) (hr : r < B) (o : Nat) (v : Value) : HoldsE (w.setCell ⟨r, o, none⟩ v) ao l := by
  intro i hi
  obtain ⟨b, h1, h2, h3, h4, h5⟩ := h i hi
  have hb := hl b h1
  refine ⟨b, h1, by rw [size_setCell]; exact h2, ?_, ?_, ?_⟩
  · rw [cell_other _ _ _ _ _ _ (by omega)]; exact h3
  · rw [cell_other _ _ _ _ _ _ (by omega)]; exact h4
  · rw [cell_other _ _ _ _ _ _ (by omega)]; exact h5

theorem q_cells {w w1 : World} {a b c : Value} {t : Nat} (hb : Below (w.alloc (Obj.cells #[a, b, c] t)).heap.size (w.alloc (Obj.cells #[a, b, c] t)) w1) :
    w1.cell? ⟨w.heap.size, 0, none⟩ = some a ∧ w1.cell? ⟨w.heap.size, 1, none⟩ = some b ∧ w1.cell? ⟨w.heap.size, 2, none⟩ = some c ∧ (∀ j, w1.frozen? ⟨w.heap.size, j, none⟩ = false) ∧ w.heap.size < w1.heap.size := by
  obtain ⟨hc, hf⟩ := bcell hb
  have hz := hb.size
  simp only [World.size_alloc] at hc hf hz
  refine ⟨?_, ?_, ?_, fun j => ?_, by omega⟩
  · rw [hc _ _ (by omega)]; simp
  · rw [hc _ _ (by omega)]; simp
  · rw [hc _ _ (by omega)]; simp
  · rw [hf _ _ (by omega)]; simp

set_option maxRecDepth 100000 in
set_option maxHeartbeats 1600000 in
theorem q_long (s ev : ByteArray) (w : World) (hs : s.size ≤ maxLen) (hev : ev.size ≤ maxLen) (h0 : 31 < s.size ∨ 9000 < ev.size) : QNo s ev w 1 := by
  unfold maxLen at hs hev
  unfold QNo
  by_cases h1 : 31 < s.size
  · clear h0
    go_enter Try.func44, Try.ntmps44
    go_wp2
    exact bodyPost_ret (v := .agg #[.slice none 0 0, .slice none 0 0, .int .i64 1]) (by simp [results, Try.results44, go_sem]) rfl ⟨rfl, (Below.refl _ _).alloc (Nat.le_refl _) _⟩
  · have h2 : 9000 < ev.size := by omega
    clear h0
    go_enter Try.func44, Try.ntmps44
    go_wp2
    exact bodyPost_ret (v := .agg #[.slice none 0 0, .slice none 0 0, .int .i64 1]) (by simp [results, Try.results44, go_sem]) rfl ⟨rfl, (Below.refl _ _).alloc (Nat.le_refl _) _⟩

set_option maxRecDepth 100000 in
set_option maxHeartbeats 1600000 in
theorem q_set (s ev : ByteArray) (w : World) (hs : s.size ≤ maxLen) (h0 : ¬ (31 < s.size ∨ 9000 < ev.size)) (h1 : ¬ (checkOf s.data.toList).1 = 0) : QNo s ev w (checkOf s.data.toList).1 := by
  unfold QNo
  have HR := fun w => read_no s w hs h1
  unfold readNo at HR
  have hs1 : s.size ≤ 31 := by omega
  have hs2 : ev.size ≤ 9000 := by omega
  have hck := checkOf_bound s.data.toList
  generalize (checkOf s.data.toList).2 = c2 at *
  generalize (checkOf s.data.toList).1 = c1 at *
  have hne : (c1 != 0) = true := by simpa using h1
  clear h0 h1 hs
  go_enter Try.func44, Try.ntmps44
  go_wp2_with fail
  refine (HR _).mono ?_
  rintro e w1 ⟨rfl, hb1⟩
  obtain ⟨y0, y1, y2, y3, hz⟩ := q_cells hb1
  go_wp2
  refine bodyPost_ret (v := .agg #[.slice none 0 0, .slice none 0 0, .int .i64 c1]) (by simp [results, Try.results44, go_sem, y0, y1, y2, hz]) rfl ⟨rfl, ?_⟩
  exact ((((q_bel1 hb1).setCell (Nat.le_refl _) _).setCell (Nat.le_refl _) _).setCell (Nat.le_refl _) _).alloc (by rw [size_setCell, size_setCell, size_setCell]; omega) _

set_option maxRecDepth 100000 in
set_option maxHeartbeats 1600000 in
theorem q_ev (s ev : ByteArray) (w : World) (h0 : ¬ (31 < s.size ∨ 9000 < ev.size)) (h1 : (checkOf s.data.toList).1 = 0) (h2 : evOk (tasksOf s.data.toList).length ev.data.toList = false) : QNo s ev w 8 := by
  unfold QNo
  have HR := fun w => read_ok s w h1
  have hs1 : s.size ≤ 31 := by omega
  have hs2 : ev.size ≤ 9000 := by omega
  have hn8 := (set_facts _ h1).2.1
  have HE : Hid (∀ w, Calls Try.prog 60 #[.string ev, .int .i64 (tasksOf s.data.toList).length] w fun e w' => e = .returned (.tuple #[.slice none 0 0, .bool false]) ∧ Below w.heap.size w w') := by
    intro w
    refine (read_events ev (tasksOf s.data.toList).length w hs2 hn8).mono ?_
    rintro e w' ⟨hb, hf, _⟩
    exact ⟨hf h2, hb⟩
  generalize tasksOf s.data.toList = L at *
  obtain ⟨n, hn⟩ : ∃ n, n = L.length := ⟨_, rfl⟩
  rw [← hn] at HE HR hn8
  clear h0 h1 h2 hn
  go_enter Try.func44, Try.ntmps44
  go_wp2_with fail
  refine (HR _).mono ?_
  rintro e w1 ⟨ao, cap, rfl, hH, hb1⟩
  go_wp2_with fail
  refine (HE.out _).mono ?_
  rintro e w2 ⟨rfl, hb2⟩
  obtain ⟨y0, y1, y2, y3, hz⟩ := q_cells (bel_alloc hb1 hb2)
  obtain ⟨x0, x1, x2, x3, hz2⟩ := q_cells hb2
  go_wp2
  refine bodyPost_ret (v := .agg #[.slice none 0 0, .slice none 0 0, .int .i64 8]) (by simp [results, Try.results44, go_sem, y0, y1, y2]) rfl ⟨rfl, ?_⟩
  exact (((q_bel1 (bel_alloc hb1 hb2)).setCell (Nat.le_refl _) _).setCell (Nat.le_refl _) _).setCell (Nat.le_refl _) _

set_option maxRecDepth 100000 in
set_option maxHeartbeats 1600000 in
theorem q_ok (s ev : ByteArray) (w : World) (h0 : ¬ (31 < s.size ∨ 9000 < ev.size)) (h1 : (checkOf s.data.toList).1 = 0) (h2 : evOk (tasksOf s.data.toList).length ev.data.toList = true) :
    Calls Try.prog 44 #[.string s, .string ev] w fun e w' => ∃ ao cap aoE capE, e = .returned (.agg #[.slice ao (tasksOf s.data.toList).length cap, .slice aoE (evsOf ev.data.toList).length capE, .int .i64 0]) ∧ HoldsA w' ao (tasksOf s.data.toList) ∧ HoldsE w' aoE (evsOf ev.data.toList) ∧ Below w.heap.size w w' := by
  have HR := fun w => read_from s w h1
  have hs1 : s.size ≤ 31 := by omega
  have hs2 : ev.size ≤ 9000 := by omega
  have hn8 := (set_facts _ h1).2.1
  have HE : Hid (∀ w, Calls Try.prog 60 #[.string ev, .int .i64 (tasksOf s.data.toList).length] w fun e w' => ∃ ao cap, e = .returned (.tuple #[.slice ao (evsOf ev.data.toList).length cap, .bool true]) ∧ (HoldsE w' ao (evsOf ev.data.toList) ∧ LiesFrom w.heap.size ao) ∧ Below w.heap.size w w') := by
    intro w
    refine (read_events ev (tasksOf s.data.toList).length w hs2 hn8).mono ?_
    rintro e w' ⟨hb, _, hf⟩
    obtain ⟨ao, cap, he, hE, hl⟩ := hf h2
    exact ⟨ao, cap, he, ⟨hE, hl⟩, hb⟩
  generalize tasksOf s.data.toList = L at *
  generalize evsOf ev.data.toList = E at *
  obtain ⟨n, hn⟩ : ∃ n, n = L.length := ⟨_, rfl⟩
  obtain ⟨m, hm⟩ : ∃ m, m = E.length := ⟨_, rfl⟩
  rw [← hn] at HE HR hn8
  rw [← hm] at HE
  have HN : Hid (n = L.length) := hn
  have HM : Hid (m = E.length) := hm
  clear h0 h1 h2 hn hm
  go_enter Try.func44, Try.ntmps44
  go_wp2_with fail
  refine (HR _).mono ?_
  rintro e w1 ⟨ao, cap, rfl, hH, hb1⟩
  go_wp2_with fail
  refine (HE.out _).mono ?_
  rintro e w2 ⟨aoE, capE, rfl, hE, hb2⟩
  obtain ⟨y0, y1, y2, y3, hz⟩ := q_cells (bel_alloc hb1 hb2)
  obtain ⟨x0, x1, x2, x3, hz2⟩ := q_cells hb2
  go_wp2
  refine bodyPost_ret (v := .agg #[.slice ao n cap, .slice aoE m capE, .int .i64 0]) (by simp [results, Try.results44, go_sem, y0, y1, y2]) rfl ⟨ao, cap, aoE, capE, by rw [HN.out, HM.out], ?_, ?_, ?_⟩
  · have h1 := (held_alloc hH.1 _).later hb2
    have hr : w.heap.size < (w.alloc (Obj.cells #[.slice none 0 0, .slice none 0 0, .int .i64 0] 78)).heap.size := by simp
    exact ((h1.aside hH.2 hr 0 _).aside hH.2 hr 1 _).aside hH.2 hr 2 _
  · have hr : w.heap.size < (w1.alloc (Obj.cells #[.slice ao n cap, .int .i64 0, .int .i64 0] 38)).heap.size := by have := hb1.size; simp at this ⊢; omega
    exact ((hE.1.aside hE.2 hr 0 _).aside hE.2 hr 1 _).aside hE.2 hr 2 _
  · exact (((q_bel1 (bel_alloc hb1 hb2)).setCell (Nat.le_refl _) _).setCell (Nat.le_refl _) _).setCell (Nat.le_refl _) _
end Go.Proofs.Ytdhofmnidlhjpab

namespace Go.Proofs.Ytdhofmnidlhjpab
open Go.RowKit

theorem q_no (s ev : ByteArray) (w : World) (hs : s.size ≤ maxLen) (hev : ev.size ≤ maxLen) (h : (freeAns s.data.toList ev.data.toList).2 ≠ 0) : QNo s ev w (freeAns s.data.toList ev.data.toList).2 := by
  unfold freeAns at h ⊢
  by_cases h0 : 31 < s.size ∨ 9000 < ev.size
  · have h0' : 31 < s.data.toList.length ∨ 9000 < ev.data.toList.length := by simpa using h0
    rw [if_pos h0']
    exact q_long s ev w hs hev h0
  · have h0' : ¬ (31 < s.data.toList.length ∨ 9000 < ev.data.toList.length) := by simpa using h0
    rw [if_neg h0'] at h ⊢
    by_cases h1 : (checkOf s.data.toList).1 = 0
    · rw [if_neg (by simp [h1])] at h ⊢
      cases h2 : evOk (tasksOf s.data.toList).length ev.data.toList
      · rw [if_pos rfl]
        exact q_ev s ev w h0 h1 h2
      · rw [h2, if_neg (by simp)] at h
        exact absurd rfl h
    · rw [if_pos h1]
      exact q_set s ev w hs h0 h1

/-- What the playing of the events that were read answers. -/
theorem trace_ok (s ev : ByteArray) (h : (freeAns s.data.toList ev.data.toList).2 = 0) (ao aoE : Option Addr) (n cap m capE : Nat) (w : World) (hn : n = (tasksOf s.data.toList).length) (hm : m = (evsOf ev.data.toList).length) (hH : HoldsA w ao (tasksOf s.data.toList)) (hE : HoldsE w aoE (evsOf ev.data.toList)) :
    Calls Try.prog 45 #[.slice ao n cap, .slice aoE m capE] w fun e w' => e = .returned (.string ⟨(freeAns s.data.toList ev.data.toList).1.toArray⟩) ∧ Below w.heap.size w w' := by
  obtain ⟨a1, a2, a3, a4, a5⟩ := freeAns_ok _ _ h
  have hn8 := (set_facts _ a3).2.1
  have hn1 := (set_facts _ a3).2.2.1
  have hx := set_bounds _ a3
  have hd : ∀ x ∈ tasksOf s.data.toList, 1 ≤ x.d := fun x hx' => by have := (set_okTk _ a3).1 x hx'; unfold okTk at this; omega
  obtain ⟨b1, b2⟩ := evsOf_ok (tasksOf s.data.toList).length _ ev.data.toList (Nat.le_refl _) a4
  have hr := runEv_trace (tasksOf s.data.toList) hd _ ev.data.toList st0 (Nat.le_refl _) a4 (nl_start _)
  have ht := trace_of ao n cap _ aoE m capE _ w hn hn8 hn1 hx hd hm (by omega) b2 hH hE
  rw [hr] at ht
  rw [a5]
  exact ht

theorem holdsE_alloc {w : World} {ao : Option Addr} {l : List Ev} (h : HoldsE w ao l) (o : Obj) : HoldsE (w.alloc o) ao l := h.later ((Below.refl _ _).alloc (Nat.le_refl _) _)

set_option maxRecDepth 100000 in
set_option maxHeartbeats 1600000 in
theorem code_free : CodeFree := by
  intro s ev w hs hev
  by_cases h : (freeAns s.data.toList ev.data.toList).2 = 0
  · obtain ⟨a1, a2, a3, a4, a5⟩ := freeAns_ok _ _ h
    have HQ := fun w => q_ok s ev w (by simp at a1 a2; omega) a3 a4
    have HT : Hid (∀ (ao aoE : Option Addr) (n cap m capE : Nat) (w : World), n = (tasksOf s.data.toList).length → m = (evsOf ev.data.toList).length → HoldsA w ao (tasksOf s.data.toList) → HoldsE w aoE (evsOf ev.data.toList) → Calls Try.prog 45 #[.slice ao n cap, .slice aoE m capE] w fun e w' => e = .returned (.string ⟨(freeAns s.data.toList ev.data.toList).1.toArray⟩) ∧ Below w.heap.size w w') := fun ao aoE n cap m capE w => trace_ok s ev h ao aoE n cap m capE w
    have HD : Hid (freeAns s.data.toList ev.data.toList = ((freeAns s.data.toList ev.data.toList).1, 0)) := by unfold Hid; rw [← h]
    clear h a1 a2 a3 a4 a5
    generalize tasksOf s.data.toList = L at *
    generalize evsOf ev.data.toList = E at *
    generalize hF : freeAns s.data.toList ev.data.toList = F at *
    obtain ⟨F1, F2⟩ := F
    dsimp only at *
    clear hF
    go_enter Try.func27, Try.ntmps27
    go_wp2_with fail
    refine (HQ _).mono ?_
    rintro e w1 ⟨ao, cap, aoE, capE, rfl, hH, hE, hb1⟩
    obtain ⟨n, hn⟩ : ∃ n, n = L.length := ⟨_, rfl⟩
    obtain ⟨m, hm⟩ : ∃ m, m = E.length := ⟨_, rfl⟩
    rw [← hn, ← hm]
    have HN : Hid (n = L.length) := hn
    have HM : Hid (m = E.length) := hm
    clear hn hm
    go_wp2_with fail
    refine (HT.out ao aoE n cap m capE _ HN.out HM.out (held_alloc hH _) (holdsE_alloc hE _)).mono ?_
    rintro e w2 ⟨rfl, hb2⟩
    go_wp2
    go_ret2
    exact ⟨ret_free HD.out rfl, bel_alloc hb1 hb2⟩
  · have hfe := freeAns_err s.data.toList ev.data.toList
    have HQ := fun w => q_no s ev w hs hev h
    unfold QNo at HQ
    have HD : Hid (freeAns s.data.toList ev.data.toList = ([], (freeAns s.data.toList ev.data.toList).2)) := by unfold Hid; rw [← hfe.2.2 h]
    generalize freeAns s.data.toList ev.data.toList = F at *
    obtain ⟨F1, F2⟩ := F
    dsimp only at *
    have hne : (F2 != 0) = true := by simpa using h
    have b1 := hfe.1
    have b2 := hfe.2.1
    clear hfe h
    go_enter Try.func27, Try.ntmps27
    go_wp2_with fail
    refine (HQ _).mono ?_
    rintro e w1 ⟨rfl, hb1⟩
    go_wp2_with fail
    go_quiet (fail)
    go_wp2
    go_ret2
    exact ⟨ret_free HD.out rfl, belN (hb1.alloc hb1.size _) _⟩

set_option maxRecDepth 100000 in
set_option maxHeartbeats 1600000 in
theorem code_run : CodeRun := by
  intro s ev w hs hev
  by_cases h : (freeAns s.data.toList ev.data.toList).2 = 0
  · obtain ⟨a1, a2, a3, a4, a5⟩ := freeAns_ok _ _ h
    have hn8 := (set_facts _ a3).2.1
    have hx := set_bounds _ a3
    have HQ := fun w => q_ok s ev w (by simp at a1 a2; omega) a3 a4
    have HT : Hid (∀ (ao aoE : Option Addr) (n cap m capE : Nat) (w : World), n = (tasksOf s.data.toList).length → m = (evsOf ev.data.toList).length → HoldsA w ao (tasksOf s.data.toList) → HoldsE w aoE (evsOf ev.data.toList) → Calls Try.prog 45 #[.slice ao n cap, .slice aoE m capE] w fun e w' => e = .returned (.string ⟨(freeAns s.data.toList ev.data.toList).1.toArray⟩) ∧ Below w.heap.size w w') := fun ao aoE n cap m capE w => trace_ok s ev h ao aoE n cap m capE w
    cases hh : feasB (tasksOf s.data.toList)
    · have HD : Hid (runAns s.data.toList ev.data.toList = ([], 6)) := by unfold Hid runAns; rw [if_neg (by simp [h]), if_pos hh]
      obtain ⟨q1, q2, _⟩ := late_not _ hh
      clear h a1 a2 a3 a4 a5 HT
      generalize tasksOf s.data.toList = L at *
      generalize evsOf ev.data.toList = E at *
      have HF := fun ao n cap w hn hH => first_late ao n cap L w hn hn8 hx hH
      generalize tooOf L = q at *
      have hq : decide (0 < q) = true := by simp; omega
      have hq' : (0 : Int) < (q : Int) := by omega
      clear hh hx
      go_enter Try.func26, Try.ntmps26
      go_wp2_with fail
      refine (HQ _).mono ?_
      rintro e w1 ⟨ao, cap, aoE, capE, rfl, hH, hE, hb1⟩
      obtain ⟨n, hn⟩ : ∃ n, n = L.length := ⟨_, rfl⟩
      obtain ⟨m, hm⟩ : ∃ m, m = E.length := ⟨_, rfl⟩
      rw [← hn, ← hm]
      have HN : Hid (n = L.length) := hn
      clear hn hm
      go_wp2_with fail
      refine (HF ao n cap _ HN.out (held_alloc hH _)).mono ?_
      rintro e w2 ⟨rfl, hb2⟩
      go_wp2
      go_ret2
      exact ⟨ret_free HD.out rfl, bel_alloc hb1 hb2⟩
    · have HD : Hid (runAns s.data.toList ev.data.toList = ((freeAns s.data.toList ev.data.toList).1, 0)) := by unfold Hid runAns; rw [if_neg (by simp [h]), if_neg (by simp [hh]), ← h]
      have hz0 := late_feas _ hh
      clear h a1 a2 a3 a4 a5
      generalize tasksOf s.data.toList = L at *
      generalize evsOf ev.data.toList = E at *
      have HF : Hid (∀ (ao : Option Addr) (n cap : Nat) (w : World), n = L.length → HoldsA w ao L → Calls Try.prog 13 #[.slice ao n cap] w fun e w' => e = .returned (.int .i64 0) ∧ Below w.heap.size w w') := by
        intro ao n cap w hn hH; have := first_late ao n cap L w hn hn8 hx hH; rw [hz0] at this; exact this
      generalize freeAns s.data.toList ev.data.toList = F at *
      obtain ⟨F1, F2⟩ := F
      dsimp only at *
      clear hh hx hz0
      go_enter Try.func26, Try.ntmps26
      go_wp2_with fail
      refine (HQ _).mono ?_
      rintro e w1 ⟨ao, cap, aoE, capE, rfl, hH, hE, hb1⟩
      obtain ⟨n, hn⟩ : ∃ n, n = L.length := ⟨_, rfl⟩
      obtain ⟨m, hm⟩ : ∃ m, m = E.length := ⟨_, rfl⟩
      rw [← hn, ← hm]
      have HN : Hid (n = L.length) := hn
      have HM : Hid (m = E.length) := hm
      clear hn hm
      go_wp2_with fail
      refine (HF.out ao n cap _ HN.out (held_alloc hH _)).mono ?_
      rintro e w2 ⟨rfl, hb2⟩
      obtain ⟨y0, y1, y2, y3, hz⟩ := q_cells hb2
      have hH2 := (held_alloc hH _).later hb2
      have hE2 := (holdsE_alloc hE _).later hb2
      have hbw := bel_alloc hb1 hb2
      go_wp2_with fail
      refine (HT.out ao aoE n cap m capE _ HN.out HM.out hH2 hE2).mono ?_
      rintro e w3 ⟨rfl, hb3⟩
      go_wp2
      go_ret2
      exact ⟨ret_free HD.out rfl, bel_next hbw hb3⟩
  · have hfe := freeAns_err s.data.toList ev.data.toList
    have HQ := fun w => q_no s ev w hs hev h
    unfold QNo at HQ
    have HD : Hid (runAns s.data.toList ev.data.toList = ([], (freeAns s.data.toList ev.data.toList).2)) := by unfold Hid runAns; rw [if_pos h]
    generalize freeAns s.data.toList ev.data.toList = F at *
    obtain ⟨F1, F2⟩ := F
    dsimp only at *
    have hne : (F2 != 0) = true := by simpa using h
    have b1 := hfe.1
    have b2 := hfe.2.1
    clear hfe h
    go_enter Try.func26, Try.ntmps26
    go_wp2_with fail
    refine (HQ _).mono ?_
    rintro e w1 ⟨rfl, hb1⟩
    go_wp2_with fail
    go_quiet (fail)
    go_wp2
    go_ret2
    exact ⟨ret_free HD.out rfl, belN (hb1.alloc hb1.size _) _⟩
end Go.Proofs.Ytdhofmnidlhjpab
