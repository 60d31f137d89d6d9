import Derived.Test.YtdhofmnidlhjpabCPlay
import Derived.Test.YtdhofmnidlhjpabTTrace
import Derived.Test.YtdhofmnidlhjpabCEvents
import Derived.Laws.BytesArg
namespace Go.Proofs.Ytdhofmnidlhjpab
open Go.RowKit
variable {w0 w : World} {p g cap : Nat} {l : List Tk} {st : St}

/-- The trace lies elsewhere. -/
theorem LP.told (h : LP w0 w p g cap l st) (o : List UInt8) : LP w0 w p g cap l { st with out := o } := ⟨h.below, h.hp, h.hg, h.ne, h.cN, h.cL, h.lane, h.fp, h.fg⟩

/-- A cell of another block of the call's own. -/
theorem LP.setFar (h : LP w0 w p g cap l st) (b o : Nat) (v : Value) (hb : w0.heap.size ≤ b) (h1 : p ≠ b) (h2 : g ≠ b) : LP w0 (w.setCell ⟨b, o, none⟩ v) p g cap l st :=
  h.move (h.below.setCell hb _) (by rw [size_setCell]; exact Nat.le_refl _) (Below.heap_setCell _ _ _ _ h1) (Below.heap_setCell _ _ _ _ h2)

theorem Far.setNew {p g : Nat} {a w : World} (h : Far p g a w) (b o : Nat) (v : Value) (hb : a.heap.size ≤ b) : Far p g a (w.setCell ⟨b, o, none⟩ v) :=
  ⟨by rw [size_setCell]; exact h.size, fun k hk h1 h2 => (Below.heap_setCell _ _ _ _ (by show k ≠ b; omega)).trans (h.block k hk h1 h2)⟩

set_option maxRecDepth 100000 in
set_option maxHeartbeats 400000 in
theorem letter_of (k : Nat) (w : World) (hk : k ≤ 8) :
    Calls Try.prog 34 #[.int .i64 k] w fun e w' => e = .returned (.int .u8 ((97 + k : Nat) : Int)) ∧ w' = w := by
  go_enter Try.func34, Try.ntmps34
  go_wp2
  go_ret
  exact ⟨by simp, rfl⟩

theorem ret_u8 {a b : Int} (h : a = b) : Ending.returned (.int .u8 a) = .returned (.int .u8 b) := by rw [h]

/-- What a byte's call gives. -/
def Met (w0 w : World) (p g cap : Nat) (l : List Tk) (mark : Nat) (st' : St) (e : Ending) (w' : World) : Prop :=
  e = .returned (.int .u8 mark) ∧ LP w0 w' p g cap l st' ∧ Far p g w w'

set_option maxRecDepth 100000 in
set_option maxHeartbeats 1600000 in
theorem come_no (h : LP w0 w p g cap l st) (i n : Nat) (hi : i < l.length) (hl8 : l.length ≤ 8) (hn : n ≤ 9) (hx : ∀ x ∈ l, x.c ≤ 9 ∧ x.d ≤ 9 ∧ 1 ≤ x.t ∧ x.t ≤ 9) (hs : Small l st)
    (hno : ¬ (¬ (n < 1 ∨ (tkOf l i).c < n) ∧ ¬ (0 ≤ st.last i ∧ (st.now : Int) - st.last i < (tkOf l i).t))) :
    Calls Try.prog 75 #[.pointer (some ⟨p, 0, none⟩), .int .i64 i, .int .i64 n] w fun e w' => Met w0 w p g cap l (arrByte l st i n).toNat (arrive l st i n) e w' := by
  have hcL := h.cL
  have hcN := h.cN
  obtain ⟨k0, k1, k2, k3, k4, k5⟩ := h.lane i hi
  have hnb := hs.now
  have hlb := hs.last i hi
  have hxi := hx _ (tkOf_mem l i hi)
  have hbp := h.hp.2
  have hbg := h.hg.2
  have HA : Hid (∀ c o q, arrive l st i n = tell st c → arrByte l st i n = c → Met w0 w p g cap l (arrByte l st i n).toNat (arrive l st i n) (.returned (.int .u8 c.toNat)) ((w.alloc o).drewN q)) := by
    intro c o q e1 e2
    exact ⟨by rw [e2], by rw [e1]; exact ((h.alloc o).drewN q).told _, ((Far.refl _ _ _).alloc o).drewN q⟩
  have g0 : (0 : Int) ≤ (i : Int) := by omega
  have g1 : (i : Int) < (l.length : Int) := by omega
  obtain ⟨m, hm⟩ : ∃ m, m = l.length := ⟨_, rfl⟩
  rw [← hm] at hcL g1
  have hm8 : m ≤ 8 := by omega
  generalize hM : Met w0 w p g cap l (arrByte l st i n).toNat (arrive l st i n) = M at *
  by_cases e1 : n < 1 ∨ (tkOf l i).c < n
  · have HM : Hid (∀ o q, M (.returned (.int .u8 63)) ((w.alloc o).drewN q)) := fun o q => HA.out 63 o q (by unfold arrive; rw [if_pos e1]) (by unfold arrByte; rw [if_pos e1])
    generalize (tkOf l i).c = xc at *
    generalize (tkOf l i).d = xd at *
    generalize (tkOf l i).t = xt at *
    generalize nextI (tkOf l i) (st.last i) = nx at *
    clear h hm hx hno HA hM hlb hs
    rcases Nat.lt_or_ge n 1 with e2 | e2
    · have e3 : decide ((n : Int) < 1) = true := by simp; omega
      clear e1
      go_enter Try.func75, Try.ntmps75
      go_wp2
      exact HM.out _ 0
    · have e3 : decide ((n : Int) < 1) = false := by simp; omega
      have e4 : decide (xc < n) = true := by simp; omega
      clear e1
      go_enter Try.func75, Try.ntmps75
      go_wp2
      exact HM.out _ 0
  · by_cases e2 : 0 ≤ st.last i ∧ (st.now : Int) - st.last i < (tkOf l i).t
    · have HM : Hid (∀ o q, M (.returned (.int .u8 33)) ((w.alloc o).drewN q)) := fun o q => HA.out 33 o q (by unfold arrive; rw [if_neg e1, if_pos e2]) (by unfold arrByte; rw [if_neg e1, if_pos e2])
      have e5 : st.now < nextI (tkOf l i) (st.last i) := by unfold nextI; rw [if_neg (by omega)]; omega
      have e6 : nextI (tkOf l i) (st.last i) ≤ 9600 := by unfold nextI; rw [if_neg (by omega)]; omega
      have e3 : decide ((n : Int) < 1) = false := by simp; omega
      have e4 : decide ((tkOf l i).c < n) = false := by simp; omega
      have e7 : decide (st.now < nextI (tkOf l i) (st.last i)) = true := by simpa using e5
      generalize nextI (tkOf l i) (st.last i) = nx at *
      generalize st.now = nw at *
      clear e2 e1 e5
      generalize (tkOf l i).c = xc at *
      generalize (tkOf l i).d = xd at *
      generalize (tkOf l i).t = xt at *
      clear h hm hx hno HA hM hlb hs
      go_enter Try.func75, Try.ntmps75
      go_wp2_with fail
      go_quiet (fail)
      go_wp2
      exact HM.out _ _
    · exact absurd ⟨e1, e2⟩ hno

theorem LP.drew (h : LP w0 w p g cap l st) : LP w0 w.drew p g cap l st := h.drewN 1
theorem Far.drew {p g : Nat} {a w : World} (h : Far p g a w) : Far p g a w.drew := h.drewN 1

theorem let_far (w : World) {p g : Nat} (xc xd xt nx du lf n i nq : Nat) (a b : Int) :
    Far p g w (((((((((((w.alloc (Obj.cells #[.int .i64 xc, .int .i64 xd, .int .i64 xt, .int .i64 nx, .int .i64 du, .int .i64 lf] 110)).drewN (nq + 1)).setCell ⟨w.heap.size, 3, none⟩ (.int .i64 a)).setCell ⟨w.heap.size, 4, none⟩ (.int .i64 b)).setCell ⟨w.heap.size, 5, none⟩ (.int .i64 n)).setCell ⟨g, i * 6, none⟩ (.int .i64 xc)).setCell ⟨g, i * 6 + 1, none⟩ (.int .i64 xd)).setCell ⟨g, i * 6 + 2, none⟩ (.int .i64 xt)).setCell ⟨g, i * 6 + 3, none⟩ (.int .i64 a)).setCell ⟨g, i * 6 + 4, none⟩ (.int .i64 b)).setCell ⟨g, i * 6 + 5, none⟩ (.int .i64 n)).drew.drew := by
  have h0 := ((Far.refl p g w).alloc (Obj.cells #[.int .i64 xc, .int .i64 xd, .int .i64 xt, .int .i64 nx, .int .i64 du, .int .i64 lf] 110)).drewN (nq + 1)
  have h1 := h0.setNew w.heap.size 3 (.int .i64 a) (Nat.le_refl _)
  have h2 := h1.setNew w.heap.size 4 (.int .i64 b) (Nat.le_refl _)
  have h3 := h2.setNew w.heap.size 5 (.int .i64 n) (Nat.le_refl _)
  have h4 := (((((h3.setG (i * 6) (.int .i64 xc)).setG (i * 6 + 1) (.int .i64 xd)).setG (i * 6 + 2) (.int .i64 xt)).setG (i * 6 + 3) (.int .i64 a)).setG (i * 6 + 4) (.int .i64 b)).setG (i * 6 + 5) (.int .i64 n)
  exact h4.drew.drew

set_option maxRecDepth 100000 in
set_option maxHeartbeats 1600000 in
theorem come_in (h : LP w0 w p g cap l st) (i n : Nat) (hi : i < l.length) (hl8 : l.length ≤ 8) (hn : n ≤ 9) (hx : ∀ x ∈ l, x.c ≤ 9 ∧ x.d ≤ 9 ∧ 1 ≤ x.t ∧ x.t ≤ 9) (hs : Small l st)
    (e1 : ¬ (n < 1 ∨ (tkOf l i).c < n)) (e2 : ¬ (0 ≤ st.last i ∧ (st.now : Int) - st.last i < (tkOf l i).t)) :
    Calls Try.prog 75 #[.pointer (some ⟨p, 0, none⟩), .int .i64 i, .int .i64 n] w fun e w' => Met w0 w p g cap l (arrByte l st i n).toNat (arrive l st i n) e w' := by
  have hcL := h.cL
  have hcN := h.cN
  obtain ⟨k0, k1, k2, k3, k4, k5⟩ := h.lane i hi
  have z1 := h.fg
  have hnb := hs.now
  have hlb := hs.last i hi
  have hxi := hx _ (tkOf_mem l i hi)
  have HB : Hid (arrByte l st i n = 43) := by unfold Hid arrByte; rw [if_neg e1, if_neg e2]
  have HA : Hid (arrive l st i n = tell { st with left := upd st.left i n, due := upd st.due i (st.now + (tkOf l i).d), last := upd st.last i st.now } 43) := by unfold Hid arrive; rw [if_neg e1, if_neg e2]
  have HP : Hid (LP w0 w p g cap l st) := h
  have hbp := h.hp.2
  have hbg := h.hg.2
  have hne := h.ne
  have g0 : (0 : Int) ≤ (i : Int) := by omega
  have g1 : (i : Int) < (l.length : Int) := by omega
  obtain ⟨m, hm⟩ : ∃ m, m = l.length := ⟨_, rfl⟩
  rw [← hm] at hcL g1
  have hm8 : m ≤ 8 := by omega
  have e5 : nextI (tkOf l i) (st.last i) ≤ st.now := by unfold nextI; by_cases hz : st.last i < 0; rw [if_pos hz]; omega; rw [if_neg hz]; omega
  have e3 : decide ((n : Int) < 1) = false := by simp; omega
  have e4 : decide ((tkOf l i).c < n) = false := by simp; omega
  have e7 : decide (st.now < nextI (tkOf l i) (st.last i)) = false := by simp; omega
  generalize hnx : nextI (tkOf l i) (st.last i) = nx at *
  generalize hnw : st.now = nw at *
  clear e2 e1
  generalize hxc : (tkOf l i).c = xc at *
  generalize hxd : (tkOf l i).d = xd at *
  generalize hxt : (tkOf l i).t = xt at *
  have HNw : Hid (st.now = nw) := hnw
  have HXc : Hid ((tkOf l i).c = xc) := hxc
  have HXd : Hid ((tkOf l i).d = xd) := hxd
  have HXt : Hid ((tkOf l i).t = xt) := hxt
  clear h hm hx hlb hs hnx hnw hxc hxd hxt
  go_enter Try.func75, Try.ntmps75
  go_wp2_with fail
  go_quiet (fail)
  go_wp2_with fail
  go_big_region
  go_wp2_with fail
  go_big_region
  go_wp2_with fail
  go_big_region
  go_wp2
  go_ret
  have hz := HP.out.below.size
  have h1 := (((((HP.out.alloc (Obj.cells #[.int .i64 xc, .int .i64 xd, .int .i64 xt, .int .i64 nx, .int .i64 (st.due i), .int .i64 (st.left i)] 110)).drewN (nq + 1)).setFar w.heap.size 3 (.int .i64 ((nw : Int) + (xt : Int))) hz (by omega) (by omega)).setFar w.heap.size 4 (.int .i64 ((nw : Int) + (xd : Int))) hz (by omega) (by omega)).setFar w.heap.size 5 (.int .i64 n) hz (by omega) (by omega)).letIn i hi n
  rw [HXc.out, HXd.out, HXt.out, HNw.out, Int.natCast_add, Int.natCast_add] at h1
  refine ⟨by rw [HB.out]; rfl, ?_, ?_⟩
  · rw [HA.out]
    have h2 := h1.drew.drew.told (st.out ++ [43])
    exact h2
  · exact let_far w xc xd xt nx (st.due i) (st.left i) n i nq _ _

theorem come_ok (h : LP w0 w p g cap l st) (i n : Nat) (hi : i < l.length) (hl8 : l.length ≤ 8) (hn : n ≤ 9) (hx : ∀ x ∈ l, x.c ≤ 9 ∧ x.d ≤ 9 ∧ 1 ≤ x.t ∧ x.t ≤ 9) (hs : Small l st) :
    Calls Try.prog 75 #[.pointer (some ⟨p, 0, none⟩), .int .i64 i, .int .i64 n] w fun e w' => Met w0 w p g cap l (arrByte l st i n).toNat (arrive l st i n) e w' := by
  by_cases hno : ¬ (n < 1 ∨ (tkOf l i).c < n) ∧ ¬ (0 ≤ st.last i ∧ (st.now : Int) - st.last i < (tkOf l i).t)
  · exact come_in h i n hi hl8 hn hx hs hno.1 hno.2
  · exact come_no h i n hi hl8 hn hx hs hno

set_option maxRecDepth 100000 in
set_option maxHeartbeats 1600000 in
theorem pass_ok (h : LP w0 w p g cap l st) (hl8 : l.length ≤ 8) (hs : Small l st) (hnow : st.now ≤ 9400) :
    Calls Try.prog 74 #[.pointer (some ⟨p, 0, none⟩)] w fun e w' => Met w0 w p g cap l (markOf l st ⟨true, 0, 0⟩) (mid l.length st) e w' := by
  have hcN := h.cN
  have fp0 := h.fp 0
  obtain ⟨nw, hnw⟩ : ∃ nw, nw = st.now := ⟨_, rfl⟩
  rw [← hnw] at hcN hnow
  have hN1 : LP w0 (w.setCell ⟨p, 0, none⟩ (.int .i64 ((nw : Int) + 1))) p g cap l { st with now := nw + 1 } := by
    have := h.setNow (nw + 1)
    rw [Int.natCast_add] at this
    exact this
  have hs1 : Small l { st with now := nw + 1 } := ⟨by show nw + 1 ≤ 9500; omega, hs.out, hs.left, hs.due, hs.last⟩
  have HU := most_urgent hN1 hl8 hs1
  have hpk : pick { st with now := nw + 1 } l.length = pick st l.length := pick_now st (nw + 1) _ _ _
  rw [hpk] at HU
  have HF : Hid (Far p g w (w.setCell ⟨p, 0, none⟩ (.int .i64 ((nw : Int) + 1)))) := (Far.refl _ _ _).setP _ _
  have HU' : Hid (Calls Try.prog 80 #[.pointer (some ⟨p, 0, none⟩)] (w.setCell ⟨p, 0, none⟩ (.int .i64 ((nw : Int) + 1))) fun e w' => e = .returned (.int .i64 (kInt (pick st l.length))) ∧ ∃ q, w' = (w.setCell ⟨p, 0, none⟩ (.int .i64 ((nw : Int) + 1))).drewN q) := HU
  have HN1 : Hid (LP w0 (w.setCell ⟨p, 0, none⟩ (.int .i64 ((nw : Int) + 1))) p g cap l { st with now := nw + 1 }) := hN1
  clear HU hN1 hs1 hpk h
  rcases pick_cases st l.length with ⟨e, h0⟩ | ⟨k, e, hk, hpos, _⟩
  · have HM : Hid (markOf l st ⟨true, 0, 0⟩ = 45 ∧ mid l.length st = tell { st with now := nw + 1 } 45) := by
      unfold Hid markOf mid; rw [e, hnw]; exact ⟨rfl, rfl⟩
    rw [e] at HU'
    simp only [kInt] at HU'
    clear h0 e hnw hs
    go_enter Try.func74, Try.ntmps74
    go_wp2_with fail
    refine HU'.out.mono ?_
    rintro e w1 ⟨rfl, q, rfl⟩
    go_wp2
    go_ret
    refine ⟨by rw [HM.out.1]; rfl, ?_, HF.out.drewN q⟩
    rw [HM.out.2]
    exact (HN1.out.drewN q).told _
  · obtain ⟨a, ha⟩ : ∃ a, st.left k = a + 1 := ⟨st.left k - 1, by omega⟩
    have HM : Hid (markOf l st ⟨true, 0, 0⟩ = (if a = 0 then 65 + k else 97 + k) ∧ mid l.length st = { st with left := upd st.left k a, now := nw + 1, out := st.out ++ [if a = 0 then UInt8.ofNat (65 + k) else UInt8.ofNat (97 + k)] }) := by
      unfold Hid markOf mid worked
      rw [e, hnw]
      dsimp only
      rw [ha, Nat.add_sub_cancel]
      exact ⟨rfl, rfl⟩
    have bk := hs.left k hk
    rw [ha] at bk
    rw [e] at HU'
    simp only [kInt] at HU'
    clear e hs hpos hnw
    go_enter Try.func74, Try.ntmps74
    go_wp2_with fail
    refine HU'.out.mono ?_
    rintro e w1 ⟨rfl, q, rfl⟩
    have hP := HN1.out.drewN q
    have hF := HF.out.drewN q
    clear HN1 HF HU' hcN fp0
    generalize (w.setCell ⟨p, 0, none⟩ (.int .i64 ((nw : Int) + 1))).drewN q = W at *
    have hcL := hP.cL
    have hck := (hP.lane k hk).c5
    have z1 := hP.fg (k * 6 + 5)
    obtain ⟨n, hn⟩ : ∃ n, n = l.length := ⟨_, rfl⟩
    rw [← hn] at hcL
    have hkn : k < n := by omega
    have hn8 : n ≤ 8 := by omega
    have hck' : W.cell? ⟨g, k * 6 + 5, none⟩ = some (.int .i64 ((a : Int) + 1)) := by rw [hck]; simp only [ha]; rfl
    have HP : Hid (LP w0 (W.setCell ⟨g, k * 6 + 5, none⟩ (.int .i64 a)) p g cap l { st with left := upd st.left k a, now := nw + 1 }) := hP.setLeft k hk a
    have HF : Hid (Far p g w (W.setCell ⟨g, k * 6 + 5, none⟩ (.int .i64 a))) := hF.setG _ _
    have hne := hP.ne
    clear hP hF hn hl8 hk hck ha
    have gk : (0 : Int) ≤ (k : Int) := by omega
    have g3' : (k : Int) < (n : Int) := by omega
    have g4 : decide ((k : Int) < 0) = false := by simp
    by_cases ha0 : a = 0
    · rw [if_pos ha0, if_pos ha0] at HM
      subst ha0
      go_wp2
      go_ret
      refine ⟨by rw [HM.out.1]; simp, ?_, HF.out⟩
      rw [HM.out.2]
      exact HP.out.told _
    · rw [if_neg ha0, if_neg ha0] at HM
      have hae : ((a : Int) == 0) = false := by simp; omega
      clear ha0
      go_wp2_with (go_at_call 34; refine (letter_of k _ (by omega)).mono ?_; rintro e w2 ⟨rfl, rfl⟩)
      go_ret
      refine ⟨by rw [HM.out.1]; exact ret_u8 (show (97 + (k : Int)) = ((97 + k : Nat) : Int) by omega), ?_, HF.out⟩
      rw [HM.out.2]
      exact HP.out.told _
end Go.Proofs.Ytdhofmnidlhjpab

namespace Go.Proofs.Ytdhofmnidlhjpab
open Go.RowKit
variable {w0 w : World} {p g cap : Nat} {l : List Tk} {st : St}

def bytesRow (l : List UInt8) : List Value := l.map (fun b => Value.int .u8 b.toNat)
theorem bytesRow_snoc (l : List UInt8) (c : Nat) (hc : c < 256) : bytesRow l ++ [.int .u8 c] = bytesRow (l ++ [UInt8.ofNat c]) := by
  unfold bytesRow
  rw [List.map_append]
  simp only [List.map_cons, List.map_nil]
  rw [UInt8.toNat_ofNat_of_lt' (show c < 256 from hc)]

theorem star_row {w : World} {B e n : Nat} {v : Value} {l : List UInt8} (h : w.ownsRow B e 1 v n (bytesRow l ++ [.int .u8 42])) : w.ownsRow B e 1 v n (bytesRow (l ++ [42])) := by
  have e : bytesRow l ++ [.int .u8 42] = bytesRow (l ++ [42]) := by unfold bytesRow; rw [List.map_append]; rfl
  rw [← e]; exact h

theorem Try.infoU8 : (Try.prog.info? 5).map (fun i => (i.zero, i.size, i.bytes)) = some (some (.int .u8 0), 1, 1) := by kernel_rfl

theorem nums_bytes (l : List UInt8) : ((l.map (fun b => (b.toNat : Int))).map fun n => UInt8.ofNat n.toNat) = l := by
  induction l with
  | nil => rfl
  | cons b r ih =>
    rw [List.map_cons, List.map_cons, ih, Int.toNat_natCast, UInt8.ofNat_toNat]

set_option maxRecDepth 100000 in
/-- The string of a row of bytes. -/
theorem conv_row {w : World} {B n : Nat} {v : Value} {l : List UInt8} (h : w.ownsRow B 5 1 v n (bytesRow l)) (hn : n = l.length) : (convert 62 9 v).run Try.prog w = .ok (.string ⟨l.toArray⟩) w := by
  rcases h.2 with ⟨rfl, h0⟩ | ⟨b, cap, cur, rfl, _⟩
  · have e : l = [] := List.length_eq_zero_iff.1 (by omega)
    subst e
    exact run_convert_bytes_nil w 62 5 Try.underlying62 Try.underlying5 _ _ 9 Try.underlying9
  · have hc := run_convert_bytes_arg w 62 5 Try.underlying62 Try.underlying5 b 0 n cap (l.map (fun b => (b.toNat : Int))) (by rw [List.length_map]; exact hn.symm) (fun i hi => by
      rw [Nat.zero_add, h.cellAt i (by omega)]
      have hi' : i < l.length := by omega
      simp [bytesRow, List.getElem?_eq_getElem hi', List.getD_eq_getElem?_getD]) 9 Try.underlying9
    rw [hc]
    unfold strOfNums
    rw [nums_bytes]

set_option maxRecDepth 100000 in
set_option maxHeartbeats 1600000 in
/-- Behind an event the code's play is the document's. -/
theorem meet_ok (h : LP w0 w p g cap l st) (e : Ev) (he : (e.unit = true ∧ e.task = 0 ∧ e.work = 0) ∨ (e.unit = false ∧ e.task < l.length ∧ e.work ≤ 9)) (hl8 : l.length ≤ 8) (hx : ∀ x ∈ l, x.c ≤ 9 ∧ x.d ≤ 9 ∧ 1 ≤ x.t ∧ x.t ≤ 9) (hs : Small l st) (hnow : st.now ≤ 9400) :
    Calls Try.prog 62 #[.pointer (some ⟨p, 0, none⟩), .agg #[.bool e.unit, .int .i64 e.task, .int .i64 e.work]] w fun e' w' => Met w0 w p g cap l (markOf l st e) (stepEv l st e) e' w' := by
  obtain ⟨u, t, n⟩ := e
  dsimp only at he ⊢
  rcases he with ⟨rfl, rfl, rfl⟩ | ⟨rfl, ht, hn⟩
  · have HC : Hid (∀ o, Calls Try.prog 74 #[.pointer (some ⟨p, 0, none⟩)] (w.alloc o) fun e w' => Met w0 w p g cap l (markOf l st ⟨true, 0, 0⟩) (stepEv l st ⟨true, 0, 0⟩) e w') := by
      intro o
      refine (pass_ok (h.alloc o) hl8 hs hnow).mono ?_
      rintro e w' ⟨h1, h2, h3⟩
      exact ⟨h1, h2, ((Far.refl _ _ _).alloc o).trans h3⟩
    generalize hM : Met w0 w p g cap l (markOf l st ⟨true, 0, 0⟩) (stepEv l st ⟨true, 0, 0⟩) = M at *
    have HM : Hid (∀ e w', M e w' → ∃ c : Nat, e = .returned (.int .u8 c)) := by
      rw [← hM]; rintro e w' ⟨h1, _⟩; exact ⟨_, h1⟩
    clear h hM hx hs
    go_enter Try.func62, Try.ntmps62
    go_wp2_with fail
    refine (HC.out _).mono ?_
    intro e w1 hm
    obtain ⟨c, rfl⟩ := HM.out _ _ hm
    go_wp2
    exact hm
  · have HC : Hid (∀ o, Calls Try.prog 75 #[.pointer (some ⟨p, 0, none⟩), .int .i64 t, .int .i64 n] (w.alloc o) fun e w' => Met w0 w p g cap l (markOf l st ⟨false, t, n⟩) (stepEv l st ⟨false, t, n⟩) e w') := by
      intro o
      refine (come_ok (h.alloc o) t n ht hl8 hn hx hs).mono ?_
      rintro e w' ⟨h1, h2, h3⟩
      exact ⟨h1, h2, ((Far.refl _ _ _).alloc o).trans h3⟩
    generalize hM : Met w0 w p g cap l (markOf l st ⟨false, t, n⟩) (stepEv l st ⟨false, t, n⟩) = M at *
    have HM : Hid (∀ e w', M e w' → ∃ c : Nat, e = .returned (.int .u8 c)) := by
      rw [← hM]; rintro e w' ⟨h1, _⟩; exact ⟨_, h1⟩
    clear h hM hx hs
    go_enter Try.func62, Try.ntmps62
    go_wp2_with fail
    refine (HC.out _).mono ?_
    intro e w1 hm
    obtain ⟨c, rfl⟩ := HM.out _ _ hm
    go_wp2
    exact hm

theorem runEv_next (l : List Tk) (st : St) (es : List Ev) (k : Nat) (h : k < es.length) : runEv l st (es.drop k) = if lateLe (stepEv l st es[k]) l.length 0 = true then (stepEv l st es[k]).out ++ [42] else runEv l (stepEv l st es[k]) (es.drop (k + 1)) := by
  rw [List.drop_eq_getElem_cons h, runEv]

set_option maxRecDepth 100000 in
set_option maxHeartbeats 3200000 in
theorem trace_of (ao : Option Addr) (n c0 : Nat) (l : List Tk) (aoE : Option Addr) (nE cE : Nat) (es : List Ev) (w : World) (hn : n = l.length) (hl : l.length ≤ 8) (hpos : 0 < l.length) (hx : ∀ x ∈ l, x.c ≤ 9 ∧ x.d ≤ 9 ∧ 1 ≤ x.t ∧ x.t ≤ 9) (hd : ∀ x ∈ l, 1 ≤ x.d)
    (hnE : nE = es.length) (hes : es.length ≤ 9000) (hev : ∀ e ∈ es, (e.unit = true ∧ e.task = 0 ∧ e.work = 0) ∨ (e.unit = false ∧ e.task < l.length ∧ e.work ≤ 9)) (hH : HoldsA w ao l) (hE : HoldsE w aoE es) :
    Calls Try.prog 45 #[.slice ao n c0, .slice aoE nE cE] w fun e w' => e = .returned (.string ⟨(runEv l st0 es).toArray⟩) ∧ Below w.heap.size w w' := by
  obtain ⟨i0, hi0, hz0, hz1, hz2⟩ := info_parts Try.infoU8
  have HBg := new_play ao n c0 l w hn hl hpos hH
  have HX : Hid (∀ x ∈ l, x.c ≤ 9 ∧ x.d ≤ 9 ∧ 1 ≤ x.t ∧ x.t ≤ 9) := hx
  have HDd : Hid (∀ x ∈ l, 1 ≤ x.d) := hd
  have HL : Hid (l.length ≤ 8) := hl
  have HEv : Hid (∀ e ∈ es, (e.unit = true ∧ e.task = 0 ∧ e.work = 0) ∨ (e.unit = false ∧ e.task < l.length ∧ e.work ≤ 9)) := hev
  have HE : Hid (HoldsE w aoE es) := hE
  have HNE : Hid (nE = es.length) := hnE
  have hN : nE ≤ 9000 := by omega
  clear hn hev hpos hH hx hl hd hE hnE hes
  go_enter Try.func45, Try.ntmps45
  go_wp2_with fail
  refine HBg.mono ?_
  rintro e w1 ⟨p, g, c, rfl, hLP⟩
  clear HBg
  have HP0 : Hid (LP w w1 p g c l st0) := hLP
  have HB1 : Hid (p < w1.heap.size ∧ g < w1.heap.size ∧ w.heap.size ≤ w1.heap.size) := ⟨hLP.hp.2, hLP.hg.2, hLP.below.size⟩
  clear hLP
  go_wp2_with fail
  go_loopw [6, 7, 8] (fun v i _ wr => ∃ (k m : Nat) (st : St), k ≤ nE ∧ i = .int .i64 k ∧ LP w wr p g c l st ∧ m = st.out.length ∧ wr.ownsRow w1.heap.size 5 1 v m (bytesRow st.out) ∧ w1.heap.size ≤ wr.heap.size ∧ Bnd l st k ∧ NL l st ∧ runEv l st0 es = runEv l st (es.drop k)) (fun _ i _ _ => nE - (intOf i).toNat)
  case atStart => exact ⟨0, 0, st0, Nat.zero_le _, rfl, HP0.out, rfl, World.ownsRow_nil _ _ _ _, Nat.le_refl _, bnd_start l, nl_start l, rfl⟩
  case round =>
    obtain ⟨k, m, st, hk, rfl, hLP, hm, hown, hz, hBn, hNL, htr⟩ := hrel
    have HP : Hid (LP w wr p g c l st) := hLP
    have HBn : Hid (Bnd l st k) := hBn
    have HNL : Hid (NL l st) := hNL
    have HM : Hid (m = st.out.length) := hm
    have hmb : m ≤ 2 * k := by rw [hm]; exact hBn.out
    clear HP0 hLP hBn hNL hm
    by_cases hlt : k < nE
    · have hkl : k < es.length := by rw [← HNE.out]; exact hlt
      obtain ⟨b, rfl, hb, h0, h1, h2⟩ := HE.out.later HP.out.below k hkl
      rw [runEv_next l st es k hkl] at htr
      have hek := HEv.out _ (List.getElem_mem hkl)
      have hek2 : es[k].unit = true ∨ es[k].task < l.length := by rcases hek with h | h; exact .inl h.1; exact .inr h.2.1
      have hte : es[k].task ≤ 8 ∧ es[k].work ≤ 9 := by have := HL.out; rcases hek with h | h <;> omega
      have HMt := meet_ok HP.out es[k] hek HL.out HX.out (small_of HBn.out (by omega)) (by have := HBn.out.now; omega)
      have HBs : Hid (Bnd l (stepEv l st es[k]) (k + 1)) := bnd_step HX.out HBn.out es[k] hek2
      have HNs : Hid (lateLe (stepEv l st es[k]) l.length 0 = false → NL l (stepEv l st es[k])) := nl_step HDd.out HNL.out es[k] hek2
      have HO : Hid ((stepEv l st es[k]).out = st.out ++ [UInt8.ofNat (markOf l st es[k])]) := step_out l st es[k]
      have hmk := markOf_lt l HL.out st es[k]
      generalize es[k] = e at *
      obtain ⟨u, t, wk⟩ := e
      dsimp only at *
      generalize stepEv l st ⟨u, t, wk⟩ = st' at *
      generalize markOf l st ⟨u, t, wk⟩ = mk at *
      have HMt' : Hid (Calls Try.prog 62 #[.pointer (some ⟨p, 0, none⟩), .agg #[.bool u, .int .i64 t, .int .i64 wk]] wr fun e' w' => Met w wr p g c l mk st' e' w') := HMt
      have HTr : Hid (runEv l st0 es = if lateLe st' l.length 0 = true then st'.out ++ [42] else runEv l st' (es.drop (k + 1))) := htr
      clear HMt htr hek hek2
      go_wp2_with fail
      refine HMt'.out.mono ?_
      rintro e w2 ⟨rfl, hP2, hF2⟩
      have hown2 := hF2.owns hown HB1.out.1 HB1.out.2.1
      have hsz2 : w1.heap.size ≤ w2.heap.size := Nat.le_trans hz hF2.size
      clear HMt' hown HP h0 h1 h2 hb
      cases hl : lateLe st' l.length 0
      · rw [hl] at HTr HNs
        go_wp2_with (at_builtin; refine wpList_append_lies _ (by rfl) _ _ _ (by rfl) w1.heap.size 5 i0 _ 1 1 Try.underlying62 hi0 hz0 hz1 hz2 rfl (by omega) u6 m _ (by rfl) (hown2.alloc _) ⟨w2.heap.size, 0, none⟩ 1 1 [.int .u8 mk] (by rfl) (by rfl) (World.news_of_block (cs := #[.int .u8 mk]) (t := 5) (fr := (0, 0)) (heap_alloc_new w2 _)) (by simp [Value.oneCell']) (by omega) (by unfold maxLen; omega) (by omega) (by simp; omega) (w2.heap.size + 1) (by simp) ?_; intro gg cp w3 hown3 hgrow hat hlt1)
        have hP3 := (hP2.alloc _).grown hgrow (fun q hq => by have := (hown2.lt q hq).1; have := HB1.out; omega)
        have hz3 : w1.heap.size ≤ w3.heap.size := by have := hgrow.size; simp at this; omega
        rw [bytesRow_snoc _ _ hmk, ← HO.out] at hown3
        have HIl := is_late hP3 HL.out (small_of HBs.out (by omega))
        rw [hl] at HIl
        refine HIl.mono ?_
        rintro e w4 ⟨rfl, q, rfl⟩
        clear hgrow hat hlt1 HIl
        go_wp2
        go_roundw
        case rel => exact ⟨k + 1, m + 1, st', by omega, by go_num, hP3.drewN q, by rw [HO.out, HM.out]; simp, ownsN hown3 q, hz3, HBs.out, HNs.out trivial, HTr.out⟩
        case measure => simp [intOf]; omega
      · rw [hl] at HTr
        go_wp2_with (at_builtin; refine wpList_append_lies _ (by rfl) _ _ _ (by rfl) w1.heap.size 5 i0 _ 1 1 Try.underlying62 hi0 hz0 hz1 hz2 rfl (by omega) u6 m _ (by rfl) (hown2.alloc _) ⟨w2.heap.size, 0, none⟩ 1 1 [.int .u8 mk] (by rfl) (by rfl) (World.news_of_block (cs := #[.int .u8 mk]) (t := 5) (fr := (0, 0)) (heap_alloc_new w2 _)) (by simp [Value.oneCell']) (by omega) (by unfold maxLen; omega) (by omega) (by simp; omega) (w2.heap.size + 1) (by simp) ?_; intro gg cp w3 hown3 hgrow hat hlt1)
        have hP3 := (hP2.alloc _).grown hgrow (fun q hq => by have := (hown2.lt q hq).1; have := HB1.out; omega)
        have hz3 : w1.heap.size ≤ w3.heap.size := by have := hgrow.size; simp at this; omega
        rw [bytesRow_snoc _ _ hmk, ← HO.out] at hown3
        have HIl := is_late hP3 HL.out (small_of HBs.out (by omega))
        rw [hl] at HIl
        refine HIl.mono ?_
        rintro e w4 ⟨rfl, q, rfl⟩
        have hown4 := ownsN hown3 q
        have hP4 := hP3.drewN q
        have hz4 : w1.heap.size ≤ (w3.drewN q).heap.size := hz3
        clear hgrow hat hlt1 HIl hown3 hP3 hz3
        generalize w3.drewN q = w5 at *
        have HOl : Hid (m + 1 + 1 = (st'.out ++ [42]).length) := by unfold Hid; rw [HO.out, HM.out]; simp
        go_wp2_with (at_builtin; refine wpList_append_lies _ (by rfl) _ _ _ (by rfl) w1.heap.size 5 i0 _ 1 1 Try.underlying62 hi0 hz0 hz1 hz2 rfl (by omega) (.slice (some ⟨gg, 0, none⟩) (m + 1) cp) (m + 1) _ (by rfl) (hown4.alloc _) ⟨w5.heap.size, 0, none⟩ 1 1 [.int .u8 42] (by rfl) (by rfl) (World.news_of_block (cs := #[.int .u8 42]) (t := 5) (fr := (0, 0)) (heap_alloc_new w5 _)) (by simp [Value.oneCell']) (by omega) (by unfold maxLen; omega) (by omega) (by simp; omega) (w5.heap.size + 1) (by simp) ?_; intro gg2 cp2 w6 hown6 hgrow6 hat6 hlt6; have hcv := conv_row (star_row hown6) HOl.out)
        go_ret
        have hP6 := (hP4.alloc _).grown hgrow6 (fun q hq => by have := (hown4.lt q hq).1; have := HB1.out; omega)
        exact ⟨ret_str (by rw [HTr.out]; rfl), hP6.below⟩
    · have hnil : es.drop k = [] := List.drop_eq_nil_of_le (by rw [← HNE.out]; omega)
      rw [hnil, runEv] at htr
      have HTr : Hid (runEv l st0 es = st.out) := htr
      have hcv := conv_row hown HM.out
      have HBl : Hid (Below w.heap.size w wr) := HP.out.below
      clear hown htr hnil HP
      go_wp2
      go_ret
      exact ⟨ret_str (by rw [HTr.out]), HBl.out⟩
end Go.Proofs.Ytdhofmnidlhjpab
