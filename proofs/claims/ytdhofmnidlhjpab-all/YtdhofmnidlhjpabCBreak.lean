import Derived.Test.YtdhofmnidlhjpabMath9
import Derived.Test.YtdhofmnidlhjpabCRun
namespace Go.Proofs.Ytdhofmnidlhjpab
open Go.RowKit

/-- The bytes of task k's job at time a. -/
def jobAt (l : List Tk) (a k : Nat) : List UInt8 := if a % (tkOf l k).t = 0 then [UInt8.ofNat (97 + k), UInt8.ofNat (48 + (tkOf l k).c)] else []

theorem arrEv_snoc (l : List Tk) (a : Nat) : ∀ m k, arrEv l a (m + 1) k = arrEv l a m k ++ jobAt l a (k + m) := by
  intro m
  induction m with
  | zero =>
    intro k
    rw [arrEv, arrEv, arrEv, Nat.add_zero, List.nil_append]
    rfl
  | succ m ih =>
    intro k
    have h := ih (k + 1)
    rw [show k + 1 + m = k + (m + 1) by omega] at h
    rw [arrEv, h, arrEv]
    split
    · rfl
    · rfl

theorem syncEv_snoc (l : List Tk) : ∀ n a, syncEv l (n + 1) a = syncEv l n a ++ (arrEv l (a + n) l.length 0 ++ [46]) := by
  intro n
  induction n with
  | zero =>
    intro a
    rw [syncEv, syncEv, Nat.add_zero]
    rfl
  | succ n ih =>
    intro a
    rw [syncEv, ih (a + 1), syncEv, show a + 1 + n = a + (n + 1) by omega]
    simp only [List.append_assoc, List.cons_append]

/-- What is written when, at time a, k tasks were looked at. -/
def untilEv (l : List Tk) (a k : Nat) : List UInt8 := syncEv l a 0 ++ arrEv l a k 0

theorem untilEv_start (l : List Tk) (a : Nat) : untilEv l a 0 = syncEv l a 0 := by unfold untilEv; rw [arrEv, List.append_nil]
theorem untilEv_next (l : List Tk) (a k : Nat) : untilEv l a (k + 1) = untilEv l a k ++ jobAt l a k := by
  unfold untilEv; rw [arrEv_snoc, Nat.zero_add, List.append_assoc]
theorem untilEv_end (l : List Tk) (a : Nat) : syncEv l (a + 1) 0 = untilEv l a l.length ++ [46] := by
  unfold untilEv; rw [syncEv_snoc, Nat.zero_add, List.append_assoc]

theorem arrEv_le (l : List Tk) (a : Nat) : ∀ m k, (arrEv l a m k).length ≤ 2 * m := by
  intro m
  induction m with
  | zero => intro k; simp [arrEv]
  | succ m ih =>
    intro k
    have := ih (k + 1)
    rw [arrEv]
    split
    · simp only [List.length_cons]; omega
    · omega
theorem syncEv_le (l : List Tk) (h8 : l.length ≤ 8) : ∀ n a, (syncEv l n a).length ≤ 17 * n := by
  intro n
  induction n with
  | zero => intro a; simp [syncEv]
  | succ n ih =>
    intro a
    have h1 := ih (a + 1)
    have h2 := arrEv_le l a l.length 0
    rw [syncEv, List.length_append, List.length_cons]
    omega
theorem untilEv_le (l : List Tk) (h8 : l.length ≤ 8) (a k : Nat) (hk : k ≤ 8) : (untilEv l a k).length ≤ 17 * a + 16 := by
  have h1 := syncEv_le l h8 a 0
  have h2 := arrEv_le l a k 0
  unfold untilEv
  rw [List.length_append]
  omega

set_option maxRecDepth 100000 in
set_option maxHeartbeats 1600000 in
theorem comes_at (c d T t : Nat) (w : World) (hT : 1 ≤ T) (hT9 : T ≤ 9) (ht : t ≤ 2520) :
    Calls Try.prog 33 #[.agg #[.int .i64 c, .int .i64 d, .int .i64 T], .int .i64 t] w fun e w' => e = .returned (.bool (decide (t % T = 0))) ∧ Below w.heap.size w w' := by
  have hd : decide (0 < T) = true := by simp; omega
  have hd' : (0 : Int) < (T : Int) := by omega
  have hm : ((t : Int) % (T : Int)) = ((t % T : Nat) : Int) := (Int.natCast_emod t T).symm
  have HB : Hid ((decide (t % T = 0)) = (((t % T : Nat) : Int) == 0)) := by
    unfold Hid
    generalize t % T = q
    by_cases h : q = 0
    · simp [h]
    · have h2 : ((q : Int) == 0) = false := by simp; omega
      rw [h2]; simp [h]
  have HM : Hid (((t : Int) % (T : Int)) = ((t % T : Nat) : Int)) := hm
  clear hm
  go_enter Try.func33, Try.ntmps33
  go_wp2
  go_ret
  exact ⟨ret_boolR (by rw [HB.out, ← HM.out]), (Below.refl _ _).alloc (Nat.le_refl _) _⟩
end Go.Proofs.Ytdhofmnidlhjpab

namespace Go.Proofs.Ytdhofmnidlhjpab
open Go.RowKit

theorem dot_row {w : World} {B e n : Nat} {v : Value} {l : List UInt8} (h : w.ownsRow B e 1 v n (bytesRow l ++ [.int .u8 46])) : w.ownsRow B e 1 v n (bytesRow (l ++ [46])) := by
  have e : bytesRow l ++ [.int .u8 46] = bytesRow (l ++ [46]) := by unfold bytesRow; rw [List.map_append]; rfl
  rw [← e]; exact h

theorem owns_below {w w' : World} {base e size n : Nat} {v : Value} {xs : List Value} (ho : w.ownsRow base e size v n xs) (hb : Below w.heap.size w w') : w'.ownsRow base e size v n xs := by
  refine ⟨ho.1, ?_⟩
  rcases ho.2 with hn | ⟨b, cap, cur, hv, hbb, hg, rest⟩
  · exact .inl hn
  · refine .inr ⟨b, cap, cur, hv, hbb, ?_, rest⟩
    rw [hb.block b (Array.getElem?_eq_some_iff.1 hg).1]
    exact hg

theorem job_row (l : List Tk) (a k : Nat) (xc T : Nat) (hk : k < 8) (hc : (tkOf l k).c = xc) (hT : (tkOf l k).t = T) (hc9 : xc ≤ 9) (hm : a % T = 0) : (bytesRow (untilEv l a k) ++ [.int .u8 (97 + (k : Int))]) ++ [.int .u8 (48 + (xc : Int))] = bytesRow (untilEv l a (k + 1)) := by
  rw [untilEv_next, jobAt, hT, if_pos hm, hc, show (97 + (k : Int)) = ((97 + k : Nat) : Int) by omega, bytesRow_snoc _ _ (by omega)]
  rw [show (48 + (xc : Int)) = ((48 + xc : Nat) : Int) by omega, bytesRow_snoc _ _ (by omega), List.append_assoc]
  rfl

set_option maxRecDepth 100000 in
set_option maxHeartbeats 3200000 in
theorem events_until (ao : Option Addr) (n cap : Nat) (l : List Tk) (z : Nat) (w : World) (hn : n = l.length) (hl : l.length ≤ 8) (hx : ∀ x ∈ l, x.c ≤ 9 ∧ x.d ≤ 9 ∧ 1 ≤ x.t ∧ x.t ≤ 9) (hzz : z ≤ 2520) (hH : HoldsA w ao l) :
    Calls Try.prog 14 #[.slice ao n cap, .int .i64 z] w fun e w' => e = .returned (.string ⟨(syncEv l z 0).toArray⟩) ∧ Below w.heap.size w w' := by
  obtain ⟨i0, hi0, hz0, hz1, hz2⟩ := info_parts Try.infoU8
  have HN : Hid (n = l.length) := hn
  have HL : Hid (l.length ≤ 8) := hl
  have HX : Hid (∀ x ∈ l, x.c ≤ 9 ∧ x.d ≤ 9 ∧ 1 ≤ x.t ∧ x.t ≤ 9) := hx
  have HH : Hid (HoldsA w ao l) := hH
  have hn8 : n ≤ 8 := by omega
  clear hn hl hx hH
  go_enter Try.func14, Try.ntmps14
  go_wp2
  go_loopw [5, 6, 7] (fun v t _ wr => ∃ (a m : Nat), a ≤ z ∧ t = .int .i64 a ∧ m = (syncEv l a 0).length ∧ wr.ownsRow w.heap.size 5 1 v m (bytesRow (syncEv l a 0)) ∧ Below w.heap.size w wr) (fun _ t _ _ => z - (intOf t).toNat)
  case atStart => exact ⟨0, 0, Nat.zero_le _, rfl, rfl, World.ownsRow_nil _ _ _ _, Below.refl _ _⟩
  case round =>
    obtain ⟨a, m, ha, rfl, hm, hown, hbel⟩ := hrel
    by_cases hlt : a < z
    · rw [← untilEv_start] at hm hown
      have HM0 : Hid (m = (untilEv l a 0).length) := hm
      have HO0 : Hid (wr.ownsRow w.heap.size 5 1 u5 m (bytesRow (untilEv l a 0))) := hown
      have HB0 : Hid (Below w.heap.size w wr) := hbel
      clear hm hown hbel
      obtain ⟨wo, hwo⟩ : ∃ wo : World, wo = wr := ⟨_, rfl⟩
      rw [← hwo] at HO0 HB0 ⊢
      clear hwo
      go_wp2_with fail
      go_loopw [5, 7] (fun v i wr => ∃ (k m : Nat), k ≤ n ∧ i = .int .i64 k ∧ m = (untilEv l a k).length ∧ wr.ownsRow w.heap.size 5 1 v m (bytesRow (untilEv l a k)) ∧ Below w.heap.size w wr) (fun _ i _ => n - (intOf i).toNat)
      case atStart => exact ⟨0, m, Nat.zero_le _, rfl, HM0.out, HO0.out, HB0.out⟩
      case round =>
        obtain ⟨k, m, hk, rfl, hm, hown, hbel⟩ := hrel
        clear HM0 HO0 HB0
        have hmb := untilEv_le l HL.out a k (by omega)
        rw [← hm] at hmb
        have HM : Hid (m = (untilEv l a k).length) := hm
        clear hm
        by_cases hkn : k < n
        · have hkl : k < l.length := by rw [← HN.out]; exact hkn
          obtain ⟨b, rfl, hbW, q0, q1, q2⟩ := HH.out k hkl
          obtain ⟨fc, fd, ft1, ft2⟩ := HX.out _ (List.getElem_mem hkl)
          have htk := tkOf_get l k hkl
          have HTk : Hid (∀ x, l[k] = x → (tkOf l k).c = x.c ∧ (tkOf l k).t = x.t) := fun x hx => by rw [htk, hx]; exact ⟨rfl, rfl⟩
          clear htk
          generalize hlk : l[k] = x at *
          obtain ⟨tc, tt⟩ := HTk.out x rfl
          obtain ⟨c, d, T⟩ := x
          dsimp only at *
          have h0 := (hbel.cell (p := ⟨b, k * 3, none⟩) hbW).trans q0
          have h1 := (hbel.cell (p := ⟨b, k * 3 + 1, none⟩) hbW).trans q1
          have h2 := (hbel.cell (p := ⟨b, k * 3 + 2, none⟩) hbW).trans q2
          have HQ0 : Hid (w.cell? ⟨b, k * 3, none⟩ = some (.int .i64 c)) := q0
          have HTc : Hid ((tkOf l k).c = c) := tc
          have HTt : Hid ((tkOf l k).t = T) := tt
          have HC := fun w => comes_at c d T a w ft1 ft2 (by omega)
          have hsz := hbel.size
          clear HTk hlk tc tt q0 q1 q2
          have g0 : (0 : Int) ≤ (k : Int) := by omega
          have g1 : (k : Int) < (n : Int) := by omega
          by_cases hm : a % T = 0
          · have HC' : Hid (∀ w : World, Calls Try.prog 33 #[.agg #[.int .i64 c, .int .i64 d, .int .i64 T], .int .i64 a] w fun e w' => e = .returned (.bool true) ∧ Below w.heap.size w w') := by
              intro w; have := HC w; rw [show decide (a % T = 0) = true by simpa using hm] at this; exact this
            have HMd : Hid (a % T = 0) := hm
            clear HC hm
            go_upto_region 9 with (go_at_call 33; refine (HC'.out _).mono ?_; rintro e w1 ⟨rfl, hb1⟩)
            have hown1 := owns_below hown hb1
            have hbel1 := bel_next hbel hb1
            have hsz1 := hbel1.size
            clear hown hbel hb1 h0 h1 h2 hsz HC'
            go_upto_region 10 with (first | (go_at_call 34; refine (letter_of k _ (by omega)).mono ?_; rintro e w1 ⟨rfl, rfl⟩) | (at_builtin; refine wpList_append_lies _ (by rfl) _ _ _ (by rfl) w.heap.size 5 i0 _ 1 1 Try.underlying62 hi0 hz0 hz1 hz2 rfl (by omega) u5 m _ (by rfl) (hown1.alloc _) ⟨w1.heap.size, 0, none⟩ 1 1 [.int .u8 (97 + (k : Int))] (by rfl) (by rfl) (World.news_of_block (cs := #[.int .u8 (97 + (k : Int))]) (t := 5) (fr := (0, 0)) (heap_alloc_new w1 _)) (by simp [Value.oneCell']) (by omega) (by unfold maxLen; omega) (by omega) (by simp; omega) (w1.heap.size + 1) (by simp) ?_; intro gg cp w3 hown3 hgrow hat hlt3))
            have hbel3 := Below.grown (hbel1.alloc hsz1 _) hgrow (by simp; omega) (fun q hq => (hown1.lt q hq).1)
            have k0 := (hbel3.cell (p := ⟨b, k * 3, none⟩) hbW).trans HQ0.out
            have hsz3 := hbel3.size
            clear hown1 hbel1 hgrow hat hlt3 hsz1
            go_wp2_with (at_builtin; refine wpList_append_lies _ (by rfl) _ _ _ (by rfl) w.heap.size 5 i0 _ 1 1 Try.underlying62 hi0 hz0 hz1 hz2 rfl (by omega) (.slice (some ⟨gg, 0, none⟩) (m + 1) cp) (m + 1) _ (by rfl) (hown3.alloc _) ⟨w3.heap.size, 0, none⟩ 1 1 [.int .u8 (48 + (c : Int))] (by rfl) (by rfl) (World.news_of_block (cs := #[.int .u8 (48 + (c : Int))]) (t := 5) (fr := (0, 0)) (heap_alloc_new w3 _)) (by simp [Value.oneCell']) (by omega) (by unfold maxLen; omega) (by omega) (by simp; omega) (w3.heap.size + 1) (by simp) ?_; intro gg2 cp2 w4 hown4 hgrow4 hat4 hlt4)
            have hbel4 := Below.grown (hbel3.alloc hsz3 _) hgrow4 (by simp; omega) (fun q hq => (hown3.lt q hq).1)
            rw [job_row l a k c T (by omega) HTc.out HTt.out fc HMd.out] at hown4
            have HLn : Hid (m + 1 + 1 = (untilEv l a (k + 1)).length) := by unfold Hid; rw [untilEv_next, jobAt, HTt.out, if_pos HMd.out, HM.out]; simp
            go_roundw
            case rel => exact ⟨k + 1, m + 1 + 1, by omega, by go_num, HLn.out, hown4, hbel4⟩
            case measure => simp [intOf]; omega
          · have HC' : Hid (∀ w : World, Calls Try.prog 33 #[.agg #[.int .i64 c, .int .i64 d, .int .i64 T], .int .i64 a] w fun e w' => e = .returned (.bool false) ∧ Below w.heap.size w w') := by
              intro w; have := HC w; rw [show decide (a % T = 0) = false by simpa using hm] at this; exact this
            have HU : Hid (untilEv l a (k + 1) = untilEv l a k) := by unfold Hid; rw [untilEv_next, jobAt, HTt.out, if_neg hm, List.append_nil]
            clear HC hm
            go_wp2_with (go_at_call 33; refine (HC'.out _).mono ?_; rintro e w1 ⟨rfl, hb1⟩)
            have hown1 := owns_below hown hb1
            go_roundw
            case rel => exact ⟨k + 1, m, by omega, by go_num, by rw [HU.out]; exact HM.out, by rw [HU.out]; exact hown1, bel_next hbel hb1⟩
            case measure => simp [intOf]; omega
        · have ek : k = l.length := by rw [← HN.out]; omega
          have HE : Hid (syncEv l (a + 1) 0 = untilEv l a k ++ [46]) := by unfold Hid; rw [ek]; exact untilEv_end l a
          have hsz := hbel.size
          clear ek
          go_wp2_with (at_builtin; refine wpList_append_lies _ (by rfl) _ _ _ (by rfl) w.heap.size 5 i0 _ 1 1 Try.underlying62 hi0 hz0 hz1 hz2 rfl (by omega) u5 m _ (by rfl) (hown.alloc _) ⟨wr.heap.size, 0, none⟩ 1 1 [.int .u8 46] (by rfl) (by rfl) (World.news_of_block (cs := #[.int .u8 46]) (t := 5) (fr := (0, 0)) (heap_alloc_new wr _)) (by simp [Value.oneCell']) (by omega) (by unfold maxLen; omega) (by omega) (by simp; omega) (wr.heap.size + 1) (by simp) ?_; intro gg cp w3 hown3 hgrow hat hlt3)
          have hbel3 := Below.grown (hbel.alloc hsz _) hgrow (by simp; omega) (fun q hq => (hown.lt q hq).1)
          go_roundw
          case rel => exact ⟨a + 1, m + 1, by omega, by go_num, by rw [HE.out, HM.out]; simp, by rw [HE.out]; exact dot_row hown3, hbel3⟩
          case measure => simp [intOf]; omega
    · have ea : a = z := by omega
      subst ea
      have hcv := conv_row hown hm
      clear hown hm
      go_wp2
      go_ret
      exact ⟨rfl, hbel⟩

/-- Ahead of the first time nothing is wanted too much. -/
theorem tooFrom_first (l : List Tk) : ∀ n t u, t ≤ u → u < tooFrom l n t → wanted l u ≤ u := by
  intro n
  induction n with
  | zero => intro t u _ h; rw [tooFrom] at h; omega
  | succ n ih =>
    intro t u h1 h2
    by_cases h : t < wanted l t
    · rw [tooFrom_hit l n t h] at h2; omega
    · rw [tooFrom_miss l n t h] at h2
      rcases Nat.lt_or_ge t u with h3 | h3
      · exact ih (t + 1) u h3 h2
      · obtain rfl : u = t := by omega
        omega

/-- Break's answers: all jobs as soon as they may, up to the first time by which too much is wanted. -/
def brkG (l : List UInt8) : List UInt8 × Int :=
  if (checkOf l).1 ≠ 0 then ([], (checkOf l).1) else
  if feasB (tasksOf l) = true then ([], 7) else (syncEv (tasksOf l) (tooOf (tasksOf l)) 0, 0)

theorem brkG_may (l : List UInt8) : brokenB l (brkG l).1 (brkG l).2 = true := by
  by_cases h1 : (checkOf l).1 = 0
  · cases hh : feasB (tasksOf l)
    · have e : brkG l = (syncEv (tasksOf l) (tooOf (tasksOf l)) 0, 0) := by unfold brkG; rw [if_neg (by simp [h1]), if_neg (by simp [hh])]
      obtain ⟨h2, h3, h4⟩ := late_not _ hh
      have hf : wanted (tasksOf l) (tooOf (tasksOf l) - 1) ≤ tooOf (tasksOf l) - 1 := by
        rcases Nat.eq_or_lt_of_le h2 with e1 | e1
        · rw [← e1, Nat.sub_self]
          have hw : wanted (tasksOf l) 0 = 0 := by
            rw [wanted_sum]
            have : ∀ n, n ≤ (tasksOf l).length → sumTo (fun i => wantedOne (tkOf (tasksOf l) i) 0) n = 0 := by
              intro n
              induction n with
              | zero => intro _; rfl
              | succ n ih =>
                intro hn
                have hx := (set_okTk l h1).1 _ (tkOf_mem (tasksOf l) n (by omega))
                unfold okTk at hx
                rw [sumTo, ih (by omega), wantedOne, if_neg (by omega)]
            exact this _ (Nat.le_refl _)
          omega
        · exact tooFrom_first (tasksOf l) 2520 1 _ (by omega) (by show _ < tooOf (tasksOf l); omega)
      rw [e]
      obtain ⟨t, ht⟩ : ∃ t, tooOf (tasksOf l) = t + 1 := ⟨tooOf (tasksOf l) - 1, by omega⟩
      rw [ht] at h3 h4 hf ⊢
      exact sync_first l t h1 hh h3 hf h4
    · have e : brkG l = ([], 7) := by unfold brkG; rw [if_neg (by simp [h1]), if_pos hh]
      rw [e]
      unfold brokenB
      rw [if_neg (by simp [h1]), if_pos hh]
      rfl
  · have e : brkG l = ([], (checkOf l).1) := by unfold brkG; rw [if_pos h1]
    rw [e]
    unfold brokenB
    rw [if_pos h1]
    simp

set_option maxRecDepth 100000 in
set_option maxHeartbeats 1600000 in
theorem break_calls (s : ByteArray) (w : World) (hs : s.size ≤ maxLen) :
    Calls Try.prog 6 #[.string s] w fun e w' => e = .returned (.tuple #[.string ⟨(brkG s.data.toList).1.toArray⟩, .int .i64 (brkG s.data.toList).2]) ∧ Below w.heap.size w w' := by
  by_cases h1 : (checkOf s.data.toList).1 = 0
  · have hn8 := (set_facts _ h1).2.1
    have hx := set_bounds _ h1
    have HR := fun w => read_ok s w h1
    cases hh : feasB (tasksOf s.data.toList)
    · have HD : Hid (brkG s.data.toList = (syncEv (tasksOf s.data.toList) (tooOf (tasksOf s.data.toList)) 0, 0)) := by unfold Hid brkG; rw [if_neg (by simp [h1]), if_neg (by simp [hh])]
      obtain ⟨q1, q2, _⟩ := late_not _ hh
      generalize tasksOf s.data.toList = L at *
      have HF := fun ao n cap w hn hH => first_late ao n cap L w hn hn8 hx hH
      have HE : Hid (∀ (ao : Option Addr) (n cap : Nat) (w : World), n = L.length → HoldsA w ao L → Calls Try.prog 14 #[.slice ao n cap, .int .i64 (tooOf L)] w fun e w' => e = .returned (.string ⟨(syncEv L (tooOf L) 0).toArray⟩) ∧ Below w.heap.size w w') :=
        fun ao n cap w hn hH => events_until ao n cap L (tooOf L) w hn hn8 hx q2 hH
      generalize syncEv L (tooOf L) 0 = Y at *
      generalize tooOf L = q at *
      have hq : ((q : Int) == 0) = false := by simp; omega
      clear h1 hh hx
      go_enter Try.func6, Try.ntmps6
      go_wp2_with fail
      refine (HR _).mono ?_
      rintro e w1 ⟨ao, cap, rfl, hH, hb1⟩
      obtain ⟨n, hn⟩ : ∃ n, n = L.length := ⟨_, rfl⟩
      rw [← hn]
      have HN : Hid (n = L.length) := hn
      clear hn
      go_wp2_with fail
      refine (HF ao n cap _ HN.out (held_alloc hH _)).mono ?_
      rintro e w2 ⟨rfl, hb2⟩
      obtain ⟨y0, y1, y2, y3, hz⟩ := q_cells hb2
      have hH2 := (held_alloc hH _).later hb2
      have hbw := bel_alloc hb1 hb2
      go_wp2_with fail
      refine (HE.out ao n cap _ HN.out hH2).mono ?_
      rintro e w3 ⟨rfl, hb3⟩
      go_wp2
      go_ret2
      exact ⟨ret_free HD.out rfl, bel_next hbw hb3⟩
    · have HD : Hid (brkG s.data.toList = ([], 7)) := by unfold Hid brkG; rw [if_neg (by simp [h1]), if_pos hh]
      generalize tasksOf s.data.toList = L at *
      have HF : Hid (∀ (ao : Option Addr) (n cap : Nat) (w : World), n = L.length → HoldsA w ao L → Calls Try.prog 13 #[.slice ao n cap] w fun e w' => e = .returned (.int .i64 0) ∧ Below w.heap.size w w') := by
        intro ao n cap w hn hH; have := first_late ao n cap L w hn hn8 hx hH; rw [late_feas L hh] at this; exact this
      clear h1 hh hx
      go_enter Try.func6, Try.ntmps6
      go_wp2_with fail
      refine (HR _).mono ?_
      rintro e w1 ⟨ao, cap, rfl, hH, hb1⟩
      obtain ⟨n, hn⟩ : ∃ n, n = L.length := ⟨_, rfl⟩
      rw [← hn]
      have HN : Hid (n = L.length) := hn
      clear hn
      go_wp2_with fail
      refine (HF.out ao n cap _ HN.out (held_alloc hH _)).mono ?_
      rintro e w2 ⟨rfl, hb2⟩
      go_wp2
      go_ret2
      exact ⟨ret_free HD.out rfl, bel_alloc hb1 hb2⟩
  · have HD : Hid (brkG s.data.toList = ([], (checkOf s.data.toList).1)) := by unfold Hid brkG; rw [if_pos h1]
    have HR := fun w => read_no s w hs h1
    unfold readNo at HR
    generalize (checkOf s.data.toList).2 = c2 at *
    generalize (checkOf s.data.toList).1 = c1 at *
    have hne : (c1 != 0) = true := by simpa using h1
    go_enter Try.func6, Try.ntmps6
    go_wp2_with fail
    refine (HR _).mono ?_
    rintro e w1 ⟨rfl, hb1⟩
    go_wp2_with fail
    go_quiet (fail)
    go_wp2
    go_ret2
    exact ⟨ret_free HD.out rfl, belN (hb1.alloc hb1.size _) _⟩

theorem code_break : CodeBreak brkG := ⟨brkG_may, break_calls⟩
end Go.Proofs.Ytdhofmnidlhjpab
