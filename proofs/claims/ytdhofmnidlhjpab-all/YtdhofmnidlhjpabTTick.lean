import Derived.Test.YtdhofmnidlhjpabTArriveIn
namespace Go.Proofs.Ytdhofmnidlhjpab
open Go.RowKit
variable {w0 w : World} {p g1 g2 g3 : Nat} {ao : Option Addr} {cap0 c1 c2 c3 : Nat} {l : List Tk} {st : St}

/-- The picked task as the number that stands for it. -/
def kInt : Option Nat → Int
  | none => -1
  | some k => k

theorem pick_zero (st : St) (m i : Nat) (k : Option Nat) (h : st.left i = 0) : pickFrom st (m + 1) i k = pickFrom st m (i + 1) k := by
  cases k with
  | none => rw [pickFrom, if_neg (by omega)]
  | some k => rw [pickFrom, if_neg (by omega)]
theorem pick_first (st : St) (m i : Nat) (h : 0 < st.left i) : pickFrom st (m + 1) i none = pickFrom st m (i + 1) (some i) := by
  rw [pickFrom, if_pos h]
theorem pick_less (st : St) (m i k : Nat) (h : 0 < st.left i) (h2 : st.due i < st.due k) : pickFrom st (m + 1) i (some k) = pickFrom st m (i + 1) (some i) := by
  rw [pickFrom, if_pos ⟨h, h2⟩]
theorem pick_more (st : St) (m i k : Nat) (h2 : ¬ st.due i < st.due k) : pickFrom st (m + 1) i (some k) = pickFrom st m (i + 1) (some k) := by
  rw [pickFrom, if_neg (fun h => h2 h.2)]

/-- A state's numbers are small. -/
structure Small (l : List Tk) (st : St) : Prop where
  now : st.now ≤ 9500
  out : st.out.length ≤ 19500
  left : ∀ i, i < l.length → st.left i ≤ 9
  due : ∀ i, i < l.length → st.due i ≤ 10000
  last : ∀ i, i < l.length → -1 ≤ st.last i ∧ st.last i ≤ 9500

set_option maxRecDepth 100000 in
set_option maxHeartbeats 1600000 in
theorem ref_tick (h : PI w0 w p g1 g2 g3 ao cap0 c1 c2 c3 l st) (hl8 : l.length ≤ 8) (hs : Small l st) :
    Calls Try.prog 54 #[.pointer (some ⟨p, 0, none⟩)] w fun e w' => e = .returned (.bool (tick l.length st).1) ∧ PI w0 w' p g1 g2 g3 ao cap0 c1 c2 c3 l (tick l.length st).2 := by
  have hcL := h.cL
  have hf1 := h.f1
  have hf2 := h.f2
  obtain ⟨n, hn⟩ : ∃ n, n = l.length := ⟨_, rfl⟩
  rw [← hn] at hcL hf1 hf2
  have hn8 : n ≤ 8 := by omega
  have HN : Hid (n = l.length) := hn
  have HP : Hid (PI w0 w p g1 g2 g3 ao cap0 c1 c2 c3 l st) := h
  clear h hn
  go_enter Try.func54, Try.ntmps54
  go_wp2
  go_loopw [3, 4] (fun kk i wr => ∃ (m q : Nat) (k : Option Nat), m ≤ n ∧ i = .int .i64 m ∧ kk = .int .i64 (kInt k) ∧ (∀ k0, k = some k0 → k0 < n) ∧ pick st n = pickFrom st (n - m) m k ∧ wr = w.drewN q) (fun _ i _ => n - (intOf i).toNat)
  case atStart => exact ⟨0, 0, none, by omega, rfl, rfl, fun _ h => (by cases h), rfl, rfl⟩
  case round =>
    obtain ⟨m, q, k, hm, rfl, rfl, hkn, hpk, rfl⟩ := hrel
    have HK : Hid (pick st n = pickFrom st (n - m) m k) := hpk
    clear hpk
    by_cases hlt : m < n
    · have hml : m < l.length := by rw [← HN.out]; exact hlt
      have e1 : n - m = (n - (m + 1)) + 1 := by omega
      rw [e1] at HK
      clear e1
      have hcl := HP.out.left m hml
      have hcd := HP.out.due m hml
      have bl := hs.left m hml
      have bd := hs.due m hml
      obtain ⟨a, ha⟩ : ∃ a, a = st.left m := ⟨_, rfl⟩
      obtain ⟨dm, hdm⟩ : ∃ dm, dm = st.due m := ⟨_, rfl⟩
      rw [← ha] at hcl bl
      rw [← hdm] at hcd bd
      have HA : Hid (a = st.left m) := ha
      have HD : Hid (dm = st.due m) := hdm
      clear ha hdm
      have g0 : (0 : Int) ≤ (m : Int) := by omega
      have g1' : (m : Int) < (n : Int) := by omega
      by_cases ha0 : a = 0
      · have HZ : Hid (st.left m = 0) := by unfold Hid; rw [← HA.out]; exact ha0
        have hd0 : decide (0 < a) = false := by simp; omega
        clear ha0
        go_wp2_with fail
        go_quiet (fail)
        go_wp2
        go_roundw
        case rel => exact ⟨m + 1, _, k, by omega, by go_num, rfl, hkn, by rw [HK.out]; exact pick_zero st _ m k HZ.out, rfl⟩
        case measure => simp [intOf]; omega
      · have HZ : Hid (0 < st.left m) := by unfold Hid; rw [← HA.out]; omega
        have hd0 : decide (0 < a) = true := by simp; omega
        have hd0' : (0 : Int) < (a : Int) := by omega
        clear ha0
        cases k with
        | none =>
          simp only [kInt]
          go_wp2_with fail
          go_quiet (fail)
          go_wp2
          go_roundw
          case rel => exact ⟨m + 1, _, some m, by omega, by go_num, rfl, fun k0 e => by cases e; exact hlt, by rw [HK.out]; exact pick_first st _ m HZ.out, rfl⟩
          case measure => simp [intOf]; omega
        | some k =>
          have hk0 := hkn k rfl
          simp only [kInt]
          have hkl : k < l.length := by rw [← HN.out]; exact hk0
          have hck := HP.out.due k hkl
          have bk := hs.due k hkl
          obtain ⟨dk, hdk⟩ : ∃ dk, dk = st.due k := ⟨_, rfl⟩
          rw [← hdk] at hck bk
          have HDK : Hid (dk = st.due k) := hdk
          clear hdk hkn
          have gk : (0 : Int) ≤ (k : Int) := by omega
          have g3' : (k : Int) < (n : Int) := by omega
          have g4 : decide ((k : Int) < 0) = false := by simp
          by_cases hdd : dm < dk
          · have hd1 : decide (dm < dk) = true := by simpa using hdd
            go_wp2_with fail
            go_quiet (fail)
            go_wp2
            go_roundw
            case rel => exact ⟨m + 1, _, some m, by omega, by go_num, rfl, fun k0 e => by cases e; exact hlt, by rw [HK.out]; exact pick_less st _ m k HZ.out (by rw [← HD.out, ← HDK.out]; exact hdd), rfl⟩
            case measure => simp [intOf]; omega
          · have hd1 : decide (dm < dk) = false := by simpa using hdd
            go_wp2_with fail
            go_quiet (fail)
            go_wp2
            go_roundw
            case rel => exact ⟨m + 1, _, some k, by omega, by go_num, rfl, fun k0 e => by cases e; exact hk0, by rw [HK.out]; exact pick_more st _ m k (by rw [← HD.out, ← HDK.out]; exact hdd), rfl⟩
            case measure => simp [intOf]; omega
    · have e0 : n - m = 0 := by omega
      rw [e0] at HK
      have HK2 : Hid (pick st n = k) := HK.out
      have hP := HP.out.drewN q
      have hnb := hs.now
      have hob := hs.out
      clear hcL hf1 hf2 HP HK e0
      have hcL : (w.drewN q).cell? ⟨p, 0, none⟩ = some (.slice ao n cap0) := by rw [HN.out]; exact hP.cL
      generalize w.drewN q = W at *
      have hcN := hP.cN
      have fp4 := hP.fp 4
      obtain ⟨nw, hnw⟩ : ∃ nw, nw = st.now := ⟨_, rfl⟩
      rw [← hnw] at hcN hnb
      have HNW : Hid (nw = st.now) := hnw
      clear hnw
      have hN1 : PI w0 (W.setCell ⟨p, 4, none⟩ (.int .i64 ((nw : Int) + 1))) p g1 g2 g3 ao cap0 c1 c2 c3 l { st with now := nw + 1 } := by
        have := hP.setNow (nw + 1)
        rw [Int.natCast_add] at this
        exact this
      cases k with
      | none =>
        have HT : Hid (Calls Try.prog 69 #[.pointer (some ⟨p, 0, none⟩), .int .u8 45] (W.setCell ⟨p, 4, none⟩ (.int .i64 ((nw : Int) + 1))) fun e w' => e = .returned (.tuple #[]) ∧ PI w0 w' p g1 g2 g3 ao cap0 c1 c2 c3 l (tell { st with now := nw + 1 } 45)) := ref_told hN1 45 (Nat.le_trans hob (by omega))
        have HR : Hid (tick l.length st = (true, tell { st with now := nw + 1 } 45)) := by unfold Hid tick; rw [← HN.out, HK2.out, HNW.out]
        clear hP hN1
        simp only [kInt]
        go_wp2_with (go_at_call 69; refine HT.out.mono ?_; rintro e w5 ⟨rfl, hP5⟩)
        go_ret
        exact ⟨ret_boolR (by rw [HR.out]), by rw [HR.out]; exact hP5⟩
      | some k =>
        have hk0 := hkn k rfl
        have hkl : k < l.length := by rw [← HN.out]; exact hk0
        simp only [kInt]
        have bk := hs.left k hkl
        have hf1 : W.cell? ⟨p, 1, none⟩ = some (.slice (some ⟨g1, 0, none⟩) n c1) := by rw [HN.out]; exact hP.f1
        have hck := hP.left k hkl
        have z1 := hP.z1 k
        have hpos : 0 < st.left k := by
          rcases pick_cases st n with ⟨e, _⟩ | ⟨k', e, _, hp, _⟩
          · rw [HK2.out] at e; cases e
          · rw [HK2.out] at e; cases e; exact hp
        obtain ⟨a, ha⟩ : ∃ a, st.left k = a + 1 := ⟨st.left k - 1, by omega⟩
        rw [ha] at hck bk
        have hne := hP.ne
        have hne1 : g1 ≠ p := fun e => hne.1 e.symm
        have hne2 : p ≠ g1 := hne.1
        have hsub : ((a + 1 : Nat) : Int) - 1 = (a : Int) := by omega
        have hW : Hid (worked st k = { st with left := upd st.left k a, now := nw + 1, out := st.out ++ [if a = 0 then UInt8.ofNat (65 + k) else UInt8.ofNat (97 + k)] }) := by
          unfold Hid worked; rw [ha, HNW.out, Nat.add_sub_cancel]
        have hL1 := hN1.setLeft k hkl a
        have HLt : Hid (∀ c : Nat, Calls Try.prog 69 #[.pointer (some ⟨p, 0, none⟩), .int .u8 c] ((W.setCell ⟨p, 4, none⟩ (.int .i64 ((nw : Int) + 1))).setCell ⟨g1, k, none⟩ (.int .i64 (a : Int))) fun e w' => e = .returned (.tuple #[]) ∧ PI w0 w' p g1 g2 g3 ao cap0 c1 c2 c3 l { st with left := upd st.left k a, now := nw + 1, out := st.out ++ [UInt8.ofNat c] }) :=
          fun c => ref_told hL1 c (Nat.le_trans hob (by omega))
        have gk : (0 : Int) ≤ (k : Int) := by omega
        have g3' : (k : Int) < (n : Int) := by omega
        have g4 : decide ((k : Int) < 0) = false := by simp
        clear hP hN1 hL1 hpos ha hkn hne
        by_cases ha0 : a = 0
        · have HT := HLt.out (65 + k)
          rw [Int.natCast_add] at HT
          rw [if_pos ha0] at hW
          subst ha0
          clear HLt
          go_wp2_with fail
          refine HT.mono ?_
          rintro e w5 ⟨rfl, hP5⟩
          rw [← hW.out] at hP5
          clear hcL hcN fp4 hf1 hck z1 hsub hW HT
          have hcL : w5.cell? ⟨p, 0, none⟩ = some (.slice ao n cap0) := by rw [HN.out]; exact hP5.cL
          have hf1 : w5.cell? ⟨p, 1, none⟩ = some (.slice (some ⟨g1, 0, none⟩) n c1) := by rw [HN.out]; exact hP5.f1
          have hf2 : w5.cell? ⟨p, 2, none⟩ = some (.slice (some ⟨g2, 0, none⟩) n c2) := by rw [HN.out]; exact hP5.f2
          have hcN : w5.cell? ⟨p, 4, none⟩ = some (.int .i64 ((nw : Int) + 1)) := by rw [HNW.out]; exact hP5.cN
          have HP5 : Hid (PI w0 w5 p g1 g2 g3 ao cap0 c1 c2 c3 l (worked st k)) := hP5
          have HT2 : Hid (∀ q, Calls Try.prog 69 #[.pointer (some ⟨p, 0, none⟩), .int .u8 42] (w5.drewN q) fun e w' => e = .returned (.tuple #[]) ∧ PI w0 w' p g1 g2 g3 ao cap0 c1 c2 c3 l (tell (worked st k) 42)) :=
            fun q => ref_told (hP5.drewN q) 42 (by simp only [worked, List.length_append, List.length_cons, List.length_nil]; omega)
          have HR : Hid (tick l.length st = if lateFrom (worked st k) n 0 = true then (false, tell (worked st k) 42) else (true, worked st k)) := by unfold Hid tick; rw [← HN.out, HK2.out]
          have HLe : Hid (∀ i, i < n → (worked st k).left i ≤ 9 ∧ (worked st k).due i ≤ 10000) := by
            intro i hi
            have h1 := hs.left i (by rw [← HN.out]; exact hi)
            have h2 := hs.due i (by rw [← HN.out]; exact hi)
            refine ⟨?_, h2⟩
            simp only [worked]
            by_cases e : i = k
            · subst e; rw [upd_same]; omega
            · rw [upd_other _ _ _ _ e]; exact h1
          have HNW2 : Hid ((worked st k).now = nw + 1) := by unfold Hid worked; rw [HNW.out]
          clear hP5 bk
          generalize worked st k = sw at *
          go_wp2_with fail
          go_loopw [5] (fun i wr => ∃ m q : Nat, m ≤ n ∧ i = .int .i64 m ∧ lateFrom sw n 0 = lateFrom sw (n - m) m ∧ wr = w5.drewN q) (fun i _ => n - (intOf i).toNat)
          case atStart => exact ⟨0, 0, by omega, rfl, rfl, rfl⟩
          case round =>
            obtain ⟨j, q2, hj, rfl, hlt2, rfl⟩ := hrel
            have HJ : Hid (lateFrom sw n 0 = lateFrom sw (n - j) j) := hlt2
            clear hlt2
            by_cases hjn : j < n
            · have hjl : j < l.length := by rw [← HN.out]; exact hjn
              have e1 : n - j = (n - (j + 1)) + 1 := by omega
              rw [e1] at HJ
              clear e1
              have hcl := HP5.out.left j hjl
              have hcd := HP5.out.due j hjl
              obtain ⟨bl, bd⟩ := HLe.out j hjn
              obtain ⟨a2, ha2⟩ : ∃ a2, a2 = sw.left j := ⟨_, rfl⟩
              obtain ⟨d2, hd2⟩ : ∃ d2, d2 = sw.due j := ⟨_, rfl⟩
              rw [← ha2] at hcl bl
              rw [← hd2] at hcd bd
              have HA2 : Hid (a2 = sw.left j) := ha2
              have HD2 : Hid (d2 = sw.due j) := hd2
              clear ha2 hd2
              have g5 : (0 : Int) ≤ (j : Int) := by omega
              have g6 : (j : Int) < (n : Int) := by omega
              by_cases e2 : a2 = 0
              · have hd0 : decide (0 < a2) = false := by simp; omega
                have HZ : Hid (a2 = 0) := e2
                clear e2
                go_wp2_with fail
                go_quiet (fail)
                go_wp2
                go_roundw
                case rel => exact ⟨j + 1, _, by omega, by go_num, by rw [HJ.out, lateFrom, ← HA2.out, HZ.out]; simp, rfl⟩
                case measure => simp [intOf]; omega
              · have hd0 : decide (0 < a2) = true := by simp; omega
                have hd0' : (0 : Int) < (a2 : Int) := by omega
                have HZ : Hid (0 < a2) := by unfold Hid; omega
                clear e2
                by_cases e3 : d2 = nw + 1
                · have hd3 : ((d2 : Int) == (nw : Int) + 1) = true := by simp; omega
                  have HE : Hid (d2 = nw + 1) := e3
                  clear e3
                  go_wp2_with fail
                  go_quiet (fail)
                  go_wp2_with (go_at_call 69; refine (HT2.out _).mono ?_; rintro e w6 ⟨rfl, hP6⟩)
                  go_ret
                  have hlate : lateFrom sw n 0 = true := by rw [HJ.out, lateFrom, ← HA2.out, ← HD2.out, HNW2.out]; simp [HZ.out, HE.out]
                  rw [hlate, if_pos rfl] at HR
                  exact ⟨ret_boolR (by rw [HR.out]), by rw [HR.out]; exact hP6⟩
                · have hd3 : ((d2 : Int) == (nw : Int) + 1) = false := by simp; omega
                  have HE : Hid (¬ d2 = nw + 1) := e3
                  clear e3
                  go_wp2_with fail
                  go_quiet (fail)
                  go_wp2
                  go_roundw
                  case rel => exact ⟨j + 1, _, by omega, by go_num, by rw [HJ.out, lateFrom, ← HA2.out, ← HD2.out, HNW2.out]; simp [HE.out], rfl⟩
                  case measure => simp [intOf]; omega
            · have hlate : lateFrom sw n 0 = false := by rw [HJ.out, show n - j = 0 by omega]; rfl
              rw [hlate, if_neg (by simp)] at HR
              clear hlate
              go_wp2
              go_ret
              exact ⟨ret_boolR (by rw [HR.out]), by rw [HR.out]; exact HP5.out.drewN q2⟩
        · have HT := HLt.out (97 + k)
          rw [Int.natCast_add] at HT
          rw [if_neg ha0] at hW
          have hae : ((a : Int) == 0) = false := by simp; omega
          clear HLt ha0
          go_wp2_with fail
          refine HT.mono ?_
          rintro e w5 ⟨rfl, hP5⟩
          rw [← hW.out] at hP5
          clear hcL hcN fp4 hf1 hck z1 hsub hW HT
          have hcL : w5.cell? ⟨p, 0, none⟩ = some (.slice ao n cap0) := by rw [HN.out]; exact hP5.cL
          have hf1 : w5.cell? ⟨p, 1, none⟩ = some (.slice (some ⟨g1, 0, none⟩) n c1) := by rw [HN.out]; exact hP5.f1
          have hf2 : w5.cell? ⟨p, 2, none⟩ = some (.slice (some ⟨g2, 0, none⟩) n c2) := by rw [HN.out]; exact hP5.f2
          have hcN : w5.cell? ⟨p, 4, none⟩ = some (.int .i64 ((nw : Int) + 1)) := by rw [HNW.out]; exact hP5.cN
          have HP5 : Hid (PI w0 w5 p g1 g2 g3 ao cap0 c1 c2 c3 l (worked st k)) := hP5
          have HT2 : Hid (∀ q, Calls Try.prog 69 #[.pointer (some ⟨p, 0, none⟩), .int .u8 42] (w5.drewN q) fun e w' => e = .returned (.tuple #[]) ∧ PI w0 w' p g1 g2 g3 ao cap0 c1 c2 c3 l (tell (worked st k) 42)) :=
            fun q => ref_told (hP5.drewN q) 42 (by simp only [worked, List.length_append, List.length_cons, List.length_nil]; omega)
          have HR : Hid (tick l.length st = if lateFrom (worked st k) n 0 = true then (false, tell (worked st k) 42) else (true, worked st k)) := by unfold Hid tick; rw [← HN.out, HK2.out]
          have HLe : Hid (∀ i, i < n → (worked st k).left i ≤ 9 ∧ (worked st k).due i ≤ 10000) := by
            intro i hi
            have h1 := hs.left i (by rw [← HN.out]; exact hi)
            have h2 := hs.due i (by rw [← HN.out]; exact hi)
            refine ⟨?_, h2⟩
            simp only [worked]
            by_cases e : i = k
            · subst e; rw [upd_same]; omega
            · rw [upd_other _ _ _ _ e]; exact h1
          have HNW2 : Hid ((worked st k).now = nw + 1) := by unfold Hid worked; rw [HNW.out]
          clear hP5 bk
          generalize worked st k = sw at *
          go_wp2_with fail
          go_loopw [5] (fun i wr => ∃ m q : Nat, m ≤ n ∧ i = .int .i64 m ∧ lateFrom sw n 0 = lateFrom sw (n - m) m ∧ wr = w5.drewN q) (fun i _ => n - (intOf i).toNat)
          case atStart => exact ⟨0, 0, by omega, rfl, rfl, rfl⟩
          case round =>
            obtain ⟨j, q2, hj, rfl, hlt2, rfl⟩ := hrel
            have HJ : Hid (lateFrom sw n 0 = lateFrom sw (n - j) j) := hlt2
            clear hlt2
            by_cases hjn : j < n
            · have hjl : j < l.length := by rw [← HN.out]; exact hjn
              have e1 : n - j = (n - (j + 1)) + 1 := by omega
              rw [e1] at HJ
              clear e1
              have hcl := HP5.out.left j hjl
              have hcd := HP5.out.due j hjl
              obtain ⟨bl, bd⟩ := HLe.out j hjn
              obtain ⟨a2, ha2⟩ : ∃ a2, a2 = sw.left j := ⟨_, rfl⟩
              obtain ⟨d2, hd2⟩ : ∃ d2, d2 = sw.due j := ⟨_, rfl⟩
              rw [← ha2] at hcl bl
              rw [← hd2] at hcd bd
              have HA2 : Hid (a2 = sw.left j) := ha2
              have HD2 : Hid (d2 = sw.due j) := hd2
              clear ha2 hd2
              have g5 : (0 : Int) ≤ (j : Int) := by omega
              have g6 : (j : Int) < (n : Int) := by omega
              by_cases e2 : a2 = 0
              · have hd0 : decide (0 < a2) = false := by simp; omega
                have HZ : Hid (a2 = 0) := e2
                clear e2
                go_wp2_with fail
                go_quiet (fail)
                go_wp2
                go_roundw
                case rel => exact ⟨j + 1, _, by omega, by go_num, by rw [HJ.out, lateFrom, ← HA2.out, HZ.out]; simp, rfl⟩
                case measure => simp [intOf]; omega
              · have hd0 : decide (0 < a2) = true := by simp; omega
                have hd0' : (0 : Int) < (a2 : Int) := by omega
                have HZ : Hid (0 < a2) := by unfold Hid; omega
                clear e2
                by_cases e3 : d2 = nw + 1
                · have hd3 : ((d2 : Int) == (nw : Int) + 1) = true := by simp; omega
                  have HE : Hid (d2 = nw + 1) := e3
                  clear e3
                  go_wp2_with fail
                  go_quiet (fail)
                  go_wp2_with (go_at_call 69; refine (HT2.out _).mono ?_; rintro e w6 ⟨rfl, hP6⟩)
                  go_ret
                  have hlate : lateFrom sw n 0 = true := by rw [HJ.out, lateFrom, ← HA2.out, ← HD2.out, HNW2.out]; simp [HZ.out, HE.out]
                  rw [hlate, if_pos rfl] at HR
                  exact ⟨ret_boolR (by rw [HR.out]), by rw [HR.out]; exact hP6⟩
                · have hd3 : ((d2 : Int) == (nw : Int) + 1) = false := by simp; omega
                  have HE : Hid (¬ d2 = nw + 1) := e3
                  clear e3
                  go_wp2_with fail
                  go_quiet (fail)
                  go_wp2
                  go_roundw
                  case rel => exact ⟨j + 1, _, by omega, by go_num, by rw [HJ.out, lateFrom, ← HA2.out, ← HD2.out, HNW2.out]; simp [HE.out], rfl⟩
                  case measure => simp [intOf]; omega
            · have hlate : lateFrom sw n 0 = false := by rw [HJ.out, show n - j = 0 by omega]; rfl
              rw [hlate, if_neg (by simp)] at HR
              clear hlate
              go_wp2
              go_ret
              exact ⟨ret_boolR (by rw [HR.out]), by rw [HR.out]; exact HP5.out.drewN q2⟩
end Go.Proofs.Ytdhofmnidlhjpab
