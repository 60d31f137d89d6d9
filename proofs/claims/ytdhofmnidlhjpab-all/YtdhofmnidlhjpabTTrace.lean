import Derived.Test.YtdhofmnidlhjpabTTick
import Derived.Test.YtdhofmnidlhjpabTArrive
import Derived.Test.YtdhofmnidlhjpabTEvents
import Derived.Test.YtdhofmnidlhjpabTInv
import Derived.Test.YtdhofmnidlhjpabMath5
import Derived.Deep.RegionHeld3
namespace Go.Proofs.Ytdhofmnidlhjpab
open Go.RowKit

theorem small_of {l : List Tk} {st : St} {m : Nat} (h : Bnd l st m) (hm : m ≤ 9000) : Small l st := by
  refine ⟨by have := h.now; omega, by have := h.out; omega, h.left, fun i hi => by have := h.due i hi; omega, fun i hi => by have := h.last i hi; omega⟩

theorem ret_str {a b : ByteArray} (h : a = b) : Ending.returned (.string a) = .returned (.string b) := by rw [h]

theorem drop_one (s : ByteArray) (k : Nat) (h : k < s.size) : s.data.toList.drop k = s[k] :: s.data.toList.drop (k + 1) := by
  rw [List.drop_eq_getElem_cons (by simpa using h)]; rfl

set_option maxRecDepth 100000 in
set_option maxHeartbeats 3200000 in
theorem ref_trace (ao : Option Addr) (n cap : Nat) (l : List Tk) (s : ByteArray) (w : World) (hn : n = l.length) (hl : l.length ≤ 8) (hpos : 0 < l.length) (hx : ∀ x ∈ l, x.c ≤ 9 ∧ x.d ≤ 9 ∧ 1 ≤ x.t ∧ x.t ≤ 9) (hs : s.size ≤ 9000) (hev : evOk l.length s.data.toList = true) (hH : HoldsA w ao l) :
    Calls Try.prog 37 #[.slice ao n cap, .string s] w fun e w' => e = .returned (.string ⟨(traceOf l st0 s.data.toList).toArray⟩) ∧ Below w.heap.size w w' := by
  have HBg := ref_begin ao n cap l w hn hl hpos hH
  have HEv : Hid (evOk l.length s.data.toList = true) := hev
  have HX : Hid (∀ x ∈ l, x.c ≤ 9 ∧ x.d ≤ 9 ∧ 1 ≤ x.t ∧ x.t ≤ 9) := hx
  have HL : Hid (l.length ≤ 8) := hl
  clear hn hev hpos hH hx hl
  go_enter Try.func37, Try.ntmps37
  go_wp2_with fail
  refine HBg.mono ?_
  rintro e w1 ⟨g1, g2, g3, c1, c2, c3, rfl, hPI⟩
  clear HBg
  obtain ⟨p, hp⟩ : ∃ p, p = w.heap.size := ⟨_, rfl⟩
  rw [← hp] at hPI ⊢
  clear hp
  have HP0 : Hid (PI w w1 p g1 g2 g3 ao cap c1 c2 c3 l st0) := hPI
  clear hPI
  go_wp2_with fail
  go_loopw [6, 7] (fun i _ wr => ∃ (k : Nat) (st : St), k ≤ s.size ∧ i = .int .i64 k ∧ PI w wr p g1 g2 g3 ao cap c1 c2 c3 l st ∧ Bnd l st k ∧ traceOf l st0 s.data.toList = traceOf l st (s.data.toList.drop k) ∧ evOk l.length (s.data.toList.drop k) = true) (fun i _ _ => s.size - (intOf i).toNat)
  case atStart => exact ⟨0, st0, by omega, rfl, HP0.out, bnd_start l, by simp, by simpa using HEv.out⟩
  case round =>
    obtain ⟨k, st, hk, rfl, hPI, hBn, htr, hevk⟩ := hrel
    have HP : Hid (PI w wr p g1 g2 g3 ao cap c1 c2 c3 l st) := hPI
    have HBn : Hid (Bnd l st k) := hBn
    clear HP0 hPI hBn HEv
    by_cases hlt : k < s.size
    · have hd1 := drop_one s k hlt
      rw [hd1] at htr hevk
      by_cases hdot : s[k].toNat = 46
      · rw [traceOf_dot l st _ _ hdot] at htr
        rw [evOk_dot _ _ _ hdot] at hevk
        have HEk : Hid (evOk l.length (s.data.toList.drop (k + 1)) = true) := hevk
        have hd : ((s[k].toNat : Int) != 46) = false := by simp; omega
        have HTk := ref_tick HP.out HL.out (small_of HBn.out (by omega))
        have HBt := bnd_tick HBn.out l.length
        clear hd1 hdot hevk
        obtain ⟨ok, st', hok⟩ : ∃ ok st', tick l.length st = (ok, st') := ⟨_, _, rfl⟩
        rw [hok] at HTk HBt htr
        dsimp only at HTk HBt htr
        clear hok
        cases ok
        · rw [if_neg (by simp)] at htr
          have HTr : Hid (traceOf l st0 s.data.toList = st'.out) := htr
          clear htr
          go_wp2_with fail
          refine HTk.mono ?_
          rintro e w2 ⟨rfl, hP2⟩
          have cS := hP2.cS
          rw [← HTr.out] at cS
          go_wp2
          go_ret
          exact ⟨rfl, hP2.below⟩
        · rw [if_pos rfl] at htr
          have HTr : Hid (traceOf l st0 s.data.toList = traceOf l st' (s.data.toList.drop (k + 1))) := htr
          clear htr
          go_wp2_with fail
          refine HTk.mono ?_
          rintro e w2 ⟨rfl, hP2⟩
          go_wp2
          go_roundw
          case rel => exact ⟨k + 1, st', by omega, by go_num, hP2, HBt, HTr.out, HEk.out⟩
          case measure => simp [intOf]; omega
      · have hd : ((s[k].toNat : Int) != 46) = true := by simp; omega
        by_cases h2 : k + 1 < s.size
        · have hd2 := drop_one s (k + 1) h2
          rw [hd2] at htr hevk
          rw [traceOf_two l st _ _ _ hdot] at htr
          rw [evOk_two _ _ _ _ hdot] at hevk
          simp only [Bool.and_eq_true, decide_eq_true_eq] at hevk
          obtain ⟨⟨⟨⟨a1, a2⟩, a3⟩, a4⟩, a5⟩ := hevk
          have HEk : Hid (evOk l.length (s.data.toList.drop (k + 2)) = true) := a5
          have HTr : Hid (traceOf l st0 s.data.toList = traceOf l (arrive l st (s[k].toNat - 97) (s[k + 1].toNat - 48)) (s.data.toList.drop (k + 2))) := htr
          have hbl := HBn.out.last (s[k].toNat - 97) a2
          have HAr2 : Hid (∀ q, Calls Try.prog 53 #[.pointer (some ⟨p, 0, none⟩), .int .i64 ((s[k].toNat : Int) - 97), .int .i64 ((s[k + 1].toNat : Int) - 48)] (wr.drewN q) fun e w' => e = .returned (.tuple #[]) ∧ PI w w' p g1 g2 g3 ao cap c1 c2 c3 l (arrive l st (s[k].toNat - 97) (s[k + 1].toNat - 48))) := by
            intro q
            have HAr := ref_arrive (HP.out.drewN q) (s[k].toNat - 97) (s[k + 1].toNat - 48) a2 HL.out (by omega) HX.out (by have := HBn.out.out; omega) (by have := HBn.out.now; omega) (by omega)
            rw [Int.ofNat_sub a1, Int.ofNat_sub a3] at HAr
            exact HAr
          have HBa := bnd_mono (bnd_arrive HX.out HBn.out (s[k].toNat - 97) (s[k + 1].toNat - 48) a2) (show k + 1 ≤ k + 2 by omega)
          have hL8 := HL.out
          have b1 : s[k].toNat ≤ 104 := by omega
          clear hd1 hd2 hdot htr a5 hbl a2 hL8
          have i1 : (0 : Int) ≤ (k : Int) := by omega
          have i2 : (k : Int) < (s.size : Int) := by omega
          have i3 : (0 : Int) ≤ (k : Int) + 1 := by omega
          have i4 : (k : Int) + 1 < (s.size : Int) := by omega
          have e1 : IntKind.i64.wrap ((k : Int) + 1) = (k : Int) + 1 := IntWalk.i64_in _ (by omega)
          have q0 : IntKind.u8.wrap ((s[k].toNat : Int) - 97) = (s[k].toNat : Int) - 97 := IntWalk.u8_in _ (by omega)
          have q1 : IntKind.u8.wrap ((s[k + 1].toNat : Int) - 48) = (s[k + 1].toNat : Int) - 48 := IntWalk.u8_in _ (by omega)
          have q2 : IntKind.i64.wrap ((s[k].toNat : Int) - 97) = (s[k].toNat : Int) - 97 := IntWalk.i64_in _ (by omega)
          have q3 : IntKind.i64.wrap ((s[k + 1].toNat : Int) - 48) = (s[k + 1].toNat : Int) - 48 := IntWalk.i64_in _ (by omega)
          have hsz := HP.out.below.size
          go_wp2_with fail
          go_region_held3 (fun w' => w.heap.size ≤ w'.heap.size) (first | (simp; omega) | exact hPn.below.size)
            ((go_at_call 53; refine (HAr2.out 1).mono ?_; rintro e w2 ⟨rfl, hPn⟩))
          all_goals
            clear q0 q1 q2 q3 HAr2
            go_wp2
            go_roundw
            case rel => exact ⟨k + 2, _, by omega, by go_num, hPn, HBa, HTr.out, HEk.out⟩
            case measure => simp [intOf]; omega
        · exfalso
          rw [List.drop_eq_nil_of_le (by simp; omega), evOk_one _ _ hdot] at hevk
          cases hevk
    · have hnil : s.data.toList.drop k = [] := List.drop_eq_nil_of_le (by simp; omega)
      rw [hnil] at htr
      have HTr : Hid (traceOf l st0 s.data.toList = st.out) := htr
      have cS := HP.out.cS
      rw [← HTr.out] at cS
      clear htr hnil hevk
      go_wp2
      go_ret
      exact ⟨rfl, HP.out.below⟩
end Go.Proofs.Ytdhofmnidlhjpab
