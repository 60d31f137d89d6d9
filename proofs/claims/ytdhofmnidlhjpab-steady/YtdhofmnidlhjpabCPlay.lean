import Derived.Test.YtdhofmnidlhjpabTTick
import Derived.Test.YtdhofmnidlhjpabMathE
import Derived.Test.YtdhofmnidlhjpabCRead
import Derived.Deep.RegionHeld3
namespace Go.Proofs.Ytdhofmnidlhjpab
open Go.RowKit

/-- When the next job of a task may come, as the code keeps it. -/
def nextI (x : Tk) (z : Int) : Nat := if z < 0 then 0 else z.toNat + x.t

/-- A lane in memory. -/
structure Lane (w : World) (g i : Nat) (x : Tk) (nx du lf : Nat) : Prop where
  c0 : w.cell? ⟨g, i * 6, none⟩ = some (.int .i64 x.c)
  c1 : w.cell? ⟨g, i * 6 + 1, none⟩ = some (.int .i64 x.d)
  c2 : w.cell? ⟨g, i * 6 + 2, none⟩ = some (.int .i64 x.t)
  c3 : w.cell? ⟨g, i * 6 + 3, none⟩ = some (.int .i64 nx)
  c4 : w.cell? ⟨g, i * 6 + 4, none⟩ = some (.int .i64 du)
  c5 : w.cell? ⟨g, i * 6 + 5, none⟩ = some (.int .i64 lf)

theorem Lane.far {w : World} {g i : Nat} {x : Tk} {nx du lf : Nat} (h : Lane w g i x nx du lf) (b o : Nat) (v : Value) (hne : ¬ (b = g ∧ i * 6 ≤ o ∧ o ≤ i * 6 + 5)) : Lane (w.setCell ⟨b, o, none⟩ v) g i x nx du lf := by
  refine ⟨?_, ?_, ?_, ?_, ?_, ?_⟩
  · rw [cell_other _ _ _ _ _ _ (by omega)]; exact h.c0
  · rw [cell_other _ _ _ _ _ _ (by omega)]; exact h.c1
  · rw [cell_other _ _ _ _ _ _ (by omega)]; exact h.c2
  · rw [cell_other _ _ _ _ _ _ (by omega)]; exact h.c3
  · rw [cell_other _ _ _ _ _ _ (by omega)]; exact h.c4
  · rw [cell_other _ _ _ _ _ _ (by omega)]; exact h.c5
theorem Lane.of_cells {w w' : World} {g i : Nat} {x : Tk} {nx du lf : Nat} (h : Lane w g i x nx du lf) (hc : ∀ o, w'.cell? ⟨g, o, none⟩ = w.cell? ⟨g, o, none⟩) : Lane w' g i x nx du lf :=
  ⟨by rw [hc]; exact h.c0, by rw [hc]; exact h.c1, by rw [hc]; exact h.c2, by rw [hc]; exact h.c3, by rw [hc]; exact h.c4, by rw [hc]; exact h.c5⟩

theorem cell_same (w : World) (b o b' o' : Nat) (v : Value) (h : w.cell? ⟨b, o, none⟩ = some v) : (w.setCell ⟨b, o, none⟩ v).cell? ⟨b', o', none⟩ = w.cell? ⟨b', o', none⟩ := by
  by_cases e : b = b' ∧ o = o'
  · obtain ⟨rfl, rfl⟩ := e
    rw [World.cell?_setCell_same _ _ _ h, h]
  · exact cell_other _ _ _ _ _ _ e

/-- What the code plays, in memory: the play in block p, the lanes in block g; all made behind w0. -/
structure LP (w0 w : World) (p g cap : Nat) (l : List Tk) (st : St) : Prop where
  below : Below w0.heap.size w0 w
  hp : w0.heap.size ≤ p ∧ p < w.heap.size
  hg : w0.heap.size ≤ g ∧ g < w.heap.size
  ne : p ≠ g
  cN : w.cell? ⟨p, 0, none⟩ = some (.int .i64 st.now)
  cL : w.cell? ⟨p, 1, none⟩ = some (.slice (some ⟨g, 0, none⟩) l.length cap)
  lane : ∀ i, i < l.length → Lane w g i (tkOf l i) (nextI (tkOf l i) (st.last i)) (st.due i) (st.left i)
  fp : ∀ j, w.frozen? ⟨p, j, none⟩ = false
  fg : ∀ j, w.frozen? ⟨g, j, none⟩ = false

/-- All but the blocks p and g is as it was. -/
structure Far (p g : Nat) (w w' : World) : Prop where
  size : w.heap.size ≤ w'.heap.size
  block : ∀ k, k < w.heap.size → k ≠ p → k ≠ g → w'.heap[k]? = w.heap[k]?

theorem Far.refl (p g : Nat) (w : World) : Far p g w w := ⟨Nat.le_refl _, fun _ _ _ _ => rfl⟩
theorem Far.trans {p g : Nat} {a b c : World} (h : Far p g a b) (k : Far p g b c) : Far p g a c :=
  ⟨Nat.le_trans h.size k.size, fun i hi h1 h2 => (k.block i (Nat.lt_of_lt_of_le hi h.size) h1 h2).trans (h.block i hi h1 h2)⟩
theorem Far.drewN {p g : Nat} {a w : World} (h : Far p g a w) (q : Nat) : Far p g a (w.drewN q) := ⟨h.size, h.block⟩
theorem Far.alloc {p g : Nat} {a w : World} (h : Far p g a w) (o : Obj) : Far p g a (w.alloc o) :=
  h.trans ⟨by simp, fun k hk _ _ => Below.heap_alloc _ _ _ hk⟩
theorem Far.setP {p g : Nat} {a w : World} (h : Far p g a w) (o : Nat) (v : Value) : Far p g a (w.setCell ⟨p, o, none⟩ v) :=
  h.trans ⟨by simp [World.setCell], fun k _ h1 _ => Below.heap_setCell _ _ _ _ h1⟩
theorem Far.setG {p g : Nat} {a w : World} (h : Far p g a w) (o : Nat) (v : Value) : Far p g a (w.setCell ⟨g, o, none⟩ v) :=
  h.trans ⟨by simp [World.setCell], fun k _ _ h2 => Below.heap_setCell _ _ _ _ h2⟩

theorem Far.owns {p g : Nat} {w w' : World} (h : Far p g w w') {base e size n : Nat} {v : Value} {xs : List Value} (ho : w.ownsRow base e size v n xs) (hp : p < base) (hg : g < base) : w'.ownsRow base e size v n xs := by
  refine ⟨ho.1, ?_⟩
  rcases ho.2 with hn | ⟨b, cap, cur, hv, hb, hbb, rest⟩
  · exact .inl hn
  · refine .inr ⟨b, cap, cur, hv, hb, ?_, rest⟩
    rw [h.block b (Array.getElem?_eq_some_iff.1 hbb).1 (by omega) (by omega)]
    exact hbb

variable {w0 w : World} {p g cap : Nat} {l : List Tk} {st : St}

theorem LP.drewN (h : LP w0 w p g cap l st) (q : Nat) : LP w0 (w.drewN q) p g cap l st :=
  ⟨belN h.below q, h.hp, h.hg, h.ne, h.cN, h.cL, fun i hi => ⟨(h.lane i hi).c0, (h.lane i hi).c1, (h.lane i hi).c2, (h.lane i hi).c3, (h.lane i hi).c4, (h.lane i hi).c5⟩, h.fp, h.fg⟩

/-- In a world that has the same blocks p and g. -/
theorem LP.move {w' : World} (h : LP w0 w p g cap l st) (hb : Below w0.heap.size w0 w') (hs : w.heap.size ≤ w'.heap.size) (h1 : w'.heap[p]? = w.heap[p]?) (h2 : w'.heap[g]? = w.heap[g]?) : LP w0 w' p g cap l st := by
  have a := h.hp; have b := h.hg
  have cp : ∀ o, w'.cell? ⟨p, o, none⟩ = w.cell? ⟨p, o, none⟩ := fun o => World.cell?_of_block (a := ⟨p, o, none⟩) h1
  have cg : ∀ o, w'.cell? ⟨g, o, none⟩ = w.cell? ⟨g, o, none⟩ := fun o => World.cell?_of_block (a := ⟨g, o, none⟩) h2
  have zp : ∀ o, w'.frozen? ⟨p, o, none⟩ = w.frozen? ⟨p, o, none⟩ := fun o => World.frozen?_of_block (a := ⟨p, o, none⟩) h1
  have zg : ∀ o, w'.frozen? ⟨g, o, none⟩ = w.frozen? ⟨g, o, none⟩ := fun o => World.frozen?_of_block (a := ⟨g, o, none⟩) h2
  exact ⟨hb, by omega, by omega, h.ne, by rw [cp]; exact h.cN, by rw [cp]; exact h.cL, fun i hi => (h.lane i hi).of_cells cg, fun j => by rw [zp]; exact h.fp j, fun j => by rw [zg]; exact h.fg j⟩

theorem LP.alloc (h : LP w0 w p g cap l st) (o : Obj) : LP w0 (w.alloc o) p g cap l st :=
  h.move (h.below.alloc h.below.size o) (by simp) (Below.heap_alloc _ _ _ h.hp.2) (Below.heap_alloc _ _ _ h.hg.2)

/-- Behind an append to a row that lies elsewhere. -/
theorem LP.grown {w' : World} {row : Option Nat} (h : LP w0 w p g cap l st) (hg : w.grownBy w' row) (hr : ∀ k, row = some k → w0.heap.size ≤ k ∧ k ≠ p ∧ k ≠ g) : LP w0 w' p g cap l st :=
  h.move (Below.grown h.below hg h.below.size (fun k hk => (hr k hk).1)) hg.size (hg.block _ h.hp.2 (fun e => (hr _ e.symm).2.1 rfl)) (hg.block _ h.hg.2 (fun e => (hr _ e.symm).2.2 rfl))

theorem LP.setNow (h : LP w0 w p g cap l st) (m : Nat) : LP w0 (w.setCell ⟨p, 0, none⟩ (.int .i64 m)) p g cap l { st with now := m } := by
  have a := h.hp; have b := h.hg; have n := h.ne
  refine ⟨h.below.setCell a.1 _, by rw [size_setCell]; exact a, by rw [size_setCell]; exact b, n, World.cell?_setCell_same _ _ _ h.cN, ?_, fun i hi => (h.lane i hi).far _ _ _ (by omega), ?_, ?_⟩
  · rw [cell_other _ _ _ _ _ _ (by omega)]; exact h.cL
  · intro j; rw [frozen_setCell]; exact h.fp j
  · intro j; rw [frozen_setCell]; exact h.fg j

theorem LP.setLeft (h : LP w0 w p g cap l st) (k : Nat) (hk : k < l.length) (v : Nat) : LP w0 (w.setCell ⟨g, k * 6 + 5, none⟩ (.int .i64 v)) p g cap l { st with left := upd st.left k v } := by
  have a := h.hp; have b := h.hg; have n := h.ne
  refine ⟨h.below.setCell b.1 _, by rw [size_setCell]; exact a, by rw [size_setCell]; exact b, n, ?_, ?_, fun i hi => ?_, ?_, ?_⟩
  · rw [cell_other _ _ _ _ _ _ (by omega)]; exact h.cN
  · rw [cell_other _ _ _ _ _ _ (by omega)]; exact h.cL
  · by_cases e : i = k
    · subst e
      have hL := h.lane i hi
      simp only [upd_same]
      refine ⟨?_, ?_, ?_, ?_, ?_, World.cell?_setCell_same _ _ _ hL.c5⟩
      · rw [cell_other _ _ _ _ _ _ (by omega)]; exact hL.c0
      · rw [cell_other _ _ _ _ _ _ (by omega)]; exact hL.c1
      · rw [cell_other _ _ _ _ _ _ (by omega)]; exact hL.c2
      · rw [cell_other _ _ _ _ _ _ (by omega)]; exact hL.c3
      · rw [cell_other _ _ _ _ _ _ (by omega)]; exact hL.c4
    · simp only [upd_other _ _ _ _ e]
      exact (h.lane i hi).far _ _ _ (by omega)
  · intro j; rw [frozen_setCell]; exact h.fp j
  · intro j; rw [frozen_setCell]; exact h.fg j

/-- The same number written again. -/
theorem LP.setSame (h : LP w0 w p g cap l st) (o : Nat) (v : Value) (hc : w.cell? ⟨g, o, none⟩ = some v) : LP w0 (w.setCell ⟨g, o, none⟩ v) p g cap l st := by
  have a := h.hp; have b := h.hg
  have cc : ∀ b' o', (w.setCell ⟨g, o, none⟩ v).cell? ⟨b', o', none⟩ = w.cell? ⟨b', o', none⟩ := fun b' o' => cell_same _ _ _ _ _ _ hc
  exact ⟨h.below.setCell b.1 _, by rw [size_setCell]; exact a, by rw [size_setCell]; exact b, h.ne, by rw [cc]; exact h.cN, by rw [cc]; exact h.cL, fun i hi => (h.lane i hi).of_cells (fun o => cc _ o), fun j => by rw [frozen_setCell]; exact h.fp j, fun j => by rw [frozen_setCell]; exact h.fg j⟩

theorem LP.setNext (h : LP w0 w p g cap l st) (k : Nat) (hk : k < l.length) (m : Nat) : LP w0 (w.setCell ⟨g, k * 6 + 3, none⟩ (.int .i64 ((m + (tkOf l k).t : Nat) : Int))) p g cap l { st with last := upd st.last k (m : Int) } := by
  have a := h.hp; have b := h.hg; have n := h.ne
  have hm : nextI (tkOf l k) (m : Int) = m + (tkOf l k).t := by unfold nextI; rw [if_neg (by omega), Int.toNat_natCast]
  refine ⟨h.below.setCell b.1 _, by rw [size_setCell]; exact a, by rw [size_setCell]; exact b, n, ?_, ?_, fun i hi => ?_, ?_, ?_⟩
  · rw [cell_other _ _ _ _ _ _ (by omega)]; exact h.cN
  · rw [cell_other _ _ _ _ _ _ (by omega)]; exact h.cL
  · by_cases e : i = k
    · subst e
      have hL := h.lane i hi
      simp only [upd_same]
      rw [hm]
      refine ⟨?_, ?_, ?_, World.cell?_setCell_same _ _ _ hL.c3, ?_, ?_⟩
      · rw [cell_other _ _ _ _ _ _ (by omega)]; exact hL.c0
      · rw [cell_other _ _ _ _ _ _ (by omega)]; exact hL.c1
      · rw [cell_other _ _ _ _ _ _ (by omega)]; exact hL.c2
      · rw [cell_other _ _ _ _ _ _ (by omega)]; exact hL.c4
      · rw [cell_other _ _ _ _ _ _ (by omega)]; exact hL.c5
    · simp only [upd_other _ _ _ _ e]
      exact (h.lane i hi).far _ _ _ (by omega)
  · intro j; rw [frozen_setCell]; exact h.fp j
  · intro j; rw [frozen_setCell]; exact h.fg j

theorem LP.setDue (h : LP w0 w p g cap l st) (k : Nat) (hk : k < l.length) (v : Nat) : LP w0 (w.setCell ⟨g, k * 6 + 4, none⟩ (.int .i64 v)) p g cap l { st with due := upd st.due k v } := by
  have a := h.hp; have b := h.hg; have n := h.ne
  refine ⟨h.below.setCell b.1 _, by rw [size_setCell]; exact a, by rw [size_setCell]; exact b, n, ?_, ?_, fun i hi => ?_, ?_, ?_⟩
  · rw [cell_other _ _ _ _ _ _ (by omega)]; exact h.cN
  · rw [cell_other _ _ _ _ _ _ (by omega)]; exact h.cL
  · by_cases e : i = k
    · subst e
      have hL := h.lane i hi
      simp only [upd_same]
      refine ⟨?_, ?_, ?_, ?_, World.cell?_setCell_same _ _ _ hL.c4, ?_⟩
      · rw [cell_other _ _ _ _ _ _ (by omega)]; exact hL.c0
      · rw [cell_other _ _ _ _ _ _ (by omega)]; exact hL.c1
      · rw [cell_other _ _ _ _ _ _ (by omega)]; exact hL.c2
      · rw [cell_other _ _ _ _ _ _ (by omega)]; exact hL.c3
      · rw [cell_other _ _ _ _ _ _ (by omega)]; exact hL.c5
    · simp only [upd_other _ _ _ _ e]
      exact (h.lane i hi).far _ _ _ (by omega)
  · intro j; rw [frozen_setCell]; exact h.fp j
  · intro j; rw [frozen_setCell]; exact h.fg j

/-- A job is let in: the lane is laid anew. -/
theorem LP.letIn (h : LP w0 w p g cap l st) (k : Nat) (hk : k < l.length) (n : Nat) :
    LP w0 ((((((w.setCell ⟨g, k * 6, none⟩ (.int .i64 (tkOf l k).c)).setCell ⟨g, k * 6 + 1, none⟩ (.int .i64 (tkOf l k).d)).setCell ⟨g, k * 6 + 2, none⟩ (.int .i64 (tkOf l k).t)).setCell ⟨g, k * 6 + 3, none⟩ (.int .i64 ((st.now + (tkOf l k).t : Nat) : Int))).setCell ⟨g, k * 6 + 4, none⟩ (.int .i64 ((st.now + (tkOf l k).d : Nat) : Int))).setCell ⟨g, k * 6 + 5, none⟩ (.int .i64 n)) p g cap l
      { st with left := upd st.left k n, due := upd st.due k (st.now + (tkOf l k).d), last := upd st.last k st.now } := by
  have h0 := h.setSame _ _ (h.lane k hk).c0
  have h1 := h0.setSame _ _ (h0.lane k hk).c1
  have h2 := h1.setSame _ _ (h1.lane k hk).c2
  have h3 := h2.setNext k hk st.now
  have h4 := h3.setDue k hk (st.now + (tkOf l k).d)
  exact h4.setLeft k hk n
end Go.Proofs.Ytdhofmnidlhjpab

namespace Go.Proofs.Ytdhofmnidlhjpab
open Go.RowKit
variable {w0 w : World} {p g cap : Nat} {l : List Tk} {st : St}

set_option maxRecDepth 100000 in
set_option maxHeartbeats 1600000 in
theorem most_urgent (h : LP w0 w p g cap l st) (hl8 : l.length ≤ 8) (hs : Small l st) :
    Calls Try.prog 80 #[.pointer (some ⟨p, 0, none⟩)] w fun e w' => e = .returned (.int .i64 (kInt (pick st l.length))) ∧ ∃ q, w' = w.drewN q := by
  have hcL := h.cL
  obtain ⟨n, hn⟩ : ∃ n, n = l.length := ⟨_, rfl⟩
  rw [← hn] at hcL ⊢
  have hn8 : n ≤ 8 := by omega
  have HN : Hid (n = l.length) := hn
  have HP : Hid (LP w0 w p g cap l st) := h
  clear h hn
  go_enter Try.func80, Try.ntmps80
  go_wp2
  go_loopw [3, 4] (fun kk i wr => ∃ (m q : Nat) (k : Option Nat), m ≤ n ∧ i = .int .i64 m ∧ kk = .int .i64 (kInt k) ∧ (∀ k0, k = some k0 → k0 < n) ∧ pick st n = pickFrom st (n - m) m k ∧ wr = w.drewN q) (fun _ i _ => n - (intOf i).toNat)
  case atStart => exact ⟨0, 0, none, by omega, rfl, rfl, fun _ h => (by cases h), rfl, rfl⟩
  case round =>
    obtain ⟨m, q, k, hm, rfl, rfl, hkn, hpk, rfl⟩ := hrel
    have HK : Hid (pick st n = pickFrom st (n - m) m k) := hpk
    clear hpk
    by_cases hlt : m < n
    · have hml : m < l.length := by rw [← HN.out]; exact hlt
      have e1 : n - m = (n - (m + 1)) + 1 := by omega
      rw [e1] at HK
      clear e1
      have hcl := (HP.out.lane m hml).c5
      have hcd := (HP.out.lane m hml).c4
      have bl := hs.left m hml
      have bd := hs.due m hml
      obtain ⟨a, ha⟩ : ∃ a, a = st.left m := ⟨_, rfl⟩
      obtain ⟨dm, hdm⟩ : ∃ dm, dm = st.due m := ⟨_, rfl⟩
      rw [← ha] at hcl bl
      rw [← hdm] at hcd bd
      have HA : Hid (a = st.left m) := ha
      have HD : Hid (dm = st.due m) := hdm
      clear ha hdm
      have g0 : (0 : Int) ≤ (m : Int) := by omega
      have g1' : (m : Int) < (n : Int) := by omega
      by_cases ha0 : a = 0
      · have HZ : Hid (st.left m = 0) := by unfold Hid; rw [← HA.out]; exact ha0
        have hd0 : ((a : Int) == 0) = true := by simp; omega
        clear ha0
        go_wp2
        go_roundw
        case rel => exact ⟨m + 1, _, k, by omega, by go_num, rfl, hkn, by rw [HK.out]; exact pick_zero st _ m k HZ.out, rfl⟩
        case measure => simp [intOf]; omega
      · have HZ : Hid (0 < st.left m) := by unfold Hid; rw [← HA.out]; omega
        have hd0 : ((a : Int) == 0) = false := by simp; omega
        clear ha0
        cases k with
        | none =>
          simp only [kInt]
          go_wp2_with fail
          go_quiet (fail)
          go_wp2
          go_roundw
          case rel => exact ⟨m + 1, _, some m, by omega, by go_num, rfl, fun k0 e => by cases e; exact hlt, by rw [HK.out]; exact pick_first st _ m HZ.out, rfl⟩
          case measure => simp [intOf]; omega
        | some k =>
          have hk0 := hkn k rfl
          simp only [kInt]
          have hkl : k < l.length := by rw [← HN.out]; exact hk0
          have hck := (HP.out.lane k hkl).c4
          have bk := hs.due k hkl
          obtain ⟨dk, hdk⟩ : ∃ dk, dk = st.due k := ⟨_, rfl⟩
          rw [← hdk] at hck bk
          have HDK : Hid (dk = st.due k) := hdk
          clear hdk hkn
          have gk : (0 : Int) ≤ (k : Int) := by omega
          have g3' : (k : Int) < (n : Int) := by omega
          have g4 : decide ((k : Int) < 0) = false := by simp
          by_cases hdd : dm < dk
          · have hd1 : decide (dm < dk) = true := by simpa using hdd
            go_wp2_with fail
            go_quiet (fail)
            go_wp2
            go_roundw
            case rel => exact ⟨m + 1, _, some m, by omega, by go_num, rfl, fun k0 e => by cases e; exact hlt, by rw [HK.out]; exact pick_less st _ m k HZ.out (by rw [← HD.out, ← HDK.out]; exact hdd), rfl⟩
            case measure => simp [intOf]; omega
          · have hd1 : decide (dm < dk) = false := by simpa using hdd
            go_wp2_with fail
            go_quiet (fail)
            go_wp2
            go_roundw
            case rel => exact ⟨m + 1, _, some k, by omega, by go_num, rfl, fun k0 e => by cases e; exact hk0, by rw [HK.out]; exact pick_more st _ m k (by rw [← HD.out, ← HDK.out]; exact hdd), rfl⟩
            case measure => simp [intOf]; omega
    · have HK2 : Hid (pick st n = k) := by unfold Hid; rw [HK.out, show n - m = 0 by omega]; cases k <;> rfl
      go_wp2
      go_ret
      exact ⟨ret_int (by rw [HK2.out]), q, rfl⟩

set_option maxRecDepth 100000 in
set_option maxHeartbeats 1600000 in
theorem is_late (h : LP w0 w p g cap l st) (hl8 : l.length ≤ 8) (hs : Small l st) :
    Calls Try.prog 63 #[.pointer (some ⟨p, 0, none⟩)] w fun e w' => e = .returned (.bool (lateLe st l.length 0)) ∧ ∃ q, w' = w.drewN q := by
  have hcL := h.cL
  have hcN := h.cN
  have hnb := hs.now
  obtain ⟨n, hn⟩ : ∃ n, n = l.length := ⟨_, rfl⟩
  rw [← hn] at hcL ⊢
  obtain ⟨nw, hnw⟩ : ∃ nw, nw = st.now := ⟨_, rfl⟩
  rw [← hnw] at hcN hnb
  have hn8 : n ≤ 8 := by omega
  have HN : Hid (n = l.length) := hn
  have HNW : Hid (nw = st.now) := hnw
  have HP : Hid (LP w0 w p g cap l st) := h
  clear h hn hnw
  go_enter Try.func63, Try.ntmps63
  go_wp2
  go_loopw [3] (fun i wr => ∃ m q : Nat, m ≤ n ∧ i = .int .i64 m ∧ lateLe st n 0 = lateLe st (n - m) m ∧ wr = w.drewN q) (fun i _ => n - (intOf i).toNat)
  case atStart => exact ⟨0, 0, by omega, rfl, rfl, rfl⟩
  case round =>
    obtain ⟨j, q, hj, rfl, hlt2, rfl⟩ := hrel
    have HJ : Hid (lateLe st n 0 = lateLe st (n - j) j) := hlt2
    clear hlt2
    by_cases hjn : j < n
    · have hjl : j < l.length := by rw [← HN.out]; exact hjn
      have e1 : n - j = (n - (j + 1)) + 1 := by omega
      rw [e1] at HJ
      clear e1
      have hcl := (HP.out.lane j hjl).c5
      have hcd := (HP.out.lane j hjl).c4
      have bl := hs.left j hjl
      have bd := hs.due j hjl
      obtain ⟨a, ha⟩ : ∃ a, a = st.left j := ⟨_, rfl⟩
      obtain ⟨d, hd⟩ : ∃ d, d = st.due j := ⟨_, rfl⟩
      rw [← ha] at hcl bl
      rw [← hd] at hcd bd
      have HA : Hid (a = st.left j) := ha
      have HD : Hid (d = st.due j) := hd
      clear ha hd
      have g5 : (0 : Int) ≤ (j : Int) := by omega
      have g6 : (j : Int) < (n : Int) := by omega
      by_cases e2 : a = 0
      · have hd0 : decide (0 < a) = false := by simp; omega
        have HZ : Hid (a = 0) := e2
        clear e2
        go_wp2_with fail
        go_quiet (fail)
        go_wp2
        go_roundw
        case rel => exact ⟨j + 1, _, by omega, by go_num, by rw [HJ.out, lateLe, ← HA.out, HZ.out]; simp, rfl⟩
        case measure => simp [intOf]; omega
      · have hd0 : decide (0 < a) = true := by simp; omega
        have hd0' : (0 : Int) < (a : Int) := by omega
        have HZ : Hid (0 < a) := by unfold Hid; omega
        clear e2
        by_cases e3 : d ≤ nw
        · have hd3 : decide (d ≤ nw) = true := by simpa using e3
          have HE : Hid (d ≤ nw) := e3
          clear e3
          go_wp2_with fail
          go_quiet (fail)
          go_wp2
          go_ret
          exact ⟨ret_boolR (by rw [HJ.out, lateLe, ← HA.out, ← HD.out, ← HNW.out]; simp [HZ.out, HE.out]), _, World.drewN_drewN _ _ _⟩
        · have hd3 : decide (d ≤ nw) = false := by simpa using e3
          have HE : Hid (¬ d ≤ nw) := e3
          clear e3
          go_wp2_with fail
          go_quiet (fail)
          go_wp2
          go_roundw
          case rel => exact ⟨j + 1, _, by omega, by go_num, by rw [HJ.out, lateLe, ← HA.out, ← HD.out, ← HNW.out]; simp [HE.out], rfl⟩
          case measure => simp [intOf]; omega
    · have HL : Hid (lateLe st n 0 = false) := by unfold Hid; rw [HJ.out, show n - j = 0 by omega]; rfl
      go_wp2
      go_ret
      exact ⟨ret_boolR HL.out.symm, q, rfl⟩
end Go.Proofs.Ytdhofmnidlhjpab

namespace Go.Proofs.Ytdhofmnidlhjpab
open Go.RowKit

theorem Try.infoCLane : (Try.prog.info? 110).map (fun i => (i.zero, i.size, i.bytes)) = some (some (.agg #[.int .i64 0, .int .i64 0, .int .i64 0, .int .i64 0, .int .i64 0, .int .i64 0]), 6, 48) := by kernel_rfl

def rowL : List Tk → List Value
  | [] => []
  | x :: r => [.int .i64 x.c, .int .i64 x.d, .int .i64 x.t, .int .i64 0, .int .i64 0, .int .i64 0] ++ rowL r

theorem rowL_append (a b : List Tk) : rowL (a ++ b) = rowL a ++ rowL b := by
  induction a with
  | nil => rfl
  | cons e r ih => simp only [List.cons_append, rowL, ih, List.append_assoc]

theorem rowL_take (l : List Tk) (k : Nat) (h : k < l.length) : rowL (l.take k) ++ [.int .i64 l[k].c, .int .i64 l[k].d, .int .i64 l[k].t, .int .i64 0, .int .i64 0, .int .i64 0] = rowL (l.take (k + 1)) := by
  rw [List.take_add_one, List.getElem?_eq_getElem h, rowL_append]; rfl

theorem rowL_at (l : List Tk) : ∀ i, (h : i < l.length) → (rowL l)[i * 6]? = some (.int .i64 l[i].c) ∧ (rowL l)[i * 6 + 1]? = some (.int .i64 l[i].d) ∧ (rowL l)[i * 6 + 2]? = some (.int .i64 l[i].t) ∧ (rowL l)[i * 6 + 3]? = some (.int .i64 0) ∧ (rowL l)[i * 6 + 4]? = some (.int .i64 0) ∧ (rowL l)[i * 6 + 5]? = some (.int .i64 0) := by
  induction l with
  | nil => intro i h; simp at h
  | cons x r ih =>
    intro i h
    cases i with
    | zero => simp [rowL]
    | succ i =>
      have := ih i (by simpa using h)
      simp only [rowL, Nat.succ_mul, List.cons_append, List.nil_append]
      simpa [Nat.add_assoc] using this

/-- The play that is made. -/
theorem lp_start {w W : World} {l : List Tk} {v : Value} {e t : Nat} (hpos : 0 < l.length) (hb : Below w.heap.size w W) (ho : W.ownsRow w.heap.size e 6 v l.length (rowL l)) :
    ∃ g cap, LP w (W.alloc (Obj.cells #[.int .i64 0, v] t)) W.heap.size g cap l st0 := by
  obtain ⟨g, cap, rfl, hg1, hg2⟩ := ho.form hpos
  have hz := hb.size
  have ho' := ho.alloc (Obj.cells #[.int .i64 0, .slice (some ⟨g, 0, none⟩) l.length cap] t)
  refine ⟨g, cap, hb.alloc hz _, ⟨hz, by simp⟩, ⟨hg1, by simp; omega⟩, by omega, by simp [st0], by simp, fun i hi => ?_, fun j => by simp, ho'.frozenAt⟩
  have hr := rowL_at l i hi
  rw [tkOf_get l i hi]
  refine ⟨?_, ?_, ?_, ?_, ?_, ?_⟩
  · rw [ho'.cellAt _ (by omega)]; exact hr.1
  · rw [ho'.cellAt _ (by omega)]; exact hr.2.1
  · rw [ho'.cellAt _ (by omega)]; exact hr.2.2.1
  · rw [ho'.cellAt _ (by omega)]; exact hr.2.2.2.1
  · rw [ho'.cellAt _ (by omega)]; exact hr.2.2.2.2.1
  · rw [ho'.cellAt _ (by omega)]; exact hr.2.2.2.2.2

set_option maxRecDepth 100000 in
set_option maxHeartbeats 1600000 in
theorem new_play (ao : Option Addr) (n cap : Nat) (l : List Tk) (w : World) (hn : n = l.length) (hl : l.length ≤ 8) (hpos : 0 < l.length) (hH : HoldsA w ao l) :
    Calls Try.prog 61 #[.slice ao n cap] w fun e w' => ∃ p g c, e = .returned (.pointer (some ⟨p, 0, none⟩)) ∧ LP w w' p g c l st0 := by
  obtain ⟨i0, hi0, hz0, hz1, hz2⟩ := info_parts Try.infoCLane
  have HN : Hid (n = l.length) := hn
  have HP : Hid (0 < l.length) := hpos
  have hn8 : n ≤ 8 := by omega
  clear hn hl hpos
  go_enter Try.func61, Try.ntmps61
  go_wp2
  go_loopw [3, 4] (fun v i wr => ∃ k : Nat, k ≤ n ∧ i = .int .i64 k ∧ wr.ownsRow w.heap.size 110 6 v k (rowL (l.take k)) ∧ Below w.heap.size w wr) (fun _ i _ => n - (intOf i).toNat)
  case atStart => exact ⟨0, Nat.zero_le _, rfl, World.ownsRow_nil _ _ _ _, Below.refl _ _⟩
  case round =>
    obtain ⟨k, hk, rfl, hown, hbel⟩ := hrel
    by_cases hlt : k < n
    · have hkl : k < l.length := by rw [← HN.out]; exact hlt
      have hH2 := HoldsA.later hH hbel
      obtain ⟨b, rfl, hb, h0, h1, h2⟩ := hH2 k hkl
      have HT : Hid _ := rowL_take l k hkl
      generalize l[k] = x at *
      obtain ⟨c, d, T⟩ := x
      dsimp only at *
      have hsz := hbel.size
      have g0 : (0 : Int) ≤ (k : Int) := by omega
      have g1 : (k : Int) < (n : Int) := by omega
      clear hH hH2
      go_wp2_with (at_builtin; (refine wpList_append_lies _ (by rfl) _ _ _ (by rfl) w.heap.size 110 i0 _ 6 48 Try.underlying108 hi0 hz0 hz1 hz2 rfl (by omega) u3 k _ (by rfl) (hown.alloc _) ⟨wr.heap.size, 0, none⟩ 1 1 [.int .i64 c, .int .i64 d, .int .i64 T, .int .i64 0, .int .i64 0, .int .i64 0] (by rfl) (by rfl) (World.news_of_block (cs := #[.int .i64 c, .int .i64 d, .int .i64 T, .int .i64 0, .int .i64 0, .int .i64 0]) (t := 110) (fr := (0, 0)) (heap_alloc_new wr _)) (by simp [Value.oneCell']) (by omega) (by unfold maxLen; omega) (by omega) (by simp; omega) (wr.heap.size + 1) (by simp) ?_; intro gg cap w1 hown1 hgrow hat hlt1))
      have hbel1 := Below.grown (hbel.alloc hsz _) hgrow (by simp; omega) (fun q hq => (hown.lt q hq).1)
      go_roundw
      case rel => exact ⟨k + 1, by omega, by go_num, by rw [← HT.out]; exact hown1, hbel1⟩
      case measure => simp [intOf]; omega
    · have e : l.take k = l := List.take_of_length_le (by rw [← HN.out]; omega)
      rw [e] at hown
      have ek : k = l.length := by rw [← HN.out]; omega
      have HO : Hid (wr.ownsRow w.heap.size 110 6 u3 l.length (rowL l)) := by unfold Hid; rw [← ek]; exact hown
      clear hown e ek
      obtain ⟨gq, cq, rfl, _, _⟩ := HO.out.form HP.out
      go_wp2
      go_ret
      obtain ⟨g, c, hLP⟩ := lp_start (t := 112) HP.out hbel HO.out
      exact ⟨_, g, c, rfl, hLP⟩
end Go.Proofs.Ytdhofmnidlhjpab
