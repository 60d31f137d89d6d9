import Derived.Test.YtdhofmnidlhjpaaLBook
import Derived.Test.YtdhofmnidlhjpaaMath5
import Derived.Test.YtdhofmnidlhjpaaMath7
import Derived.Deep.RegionHeld3
import Derived.Deep.CutRange
namespace Go.Proofs.Ytdhofmnidlhjpaa
open Go.RowKit

/-- 'kept' says true of a step. -/
def KeptT : Prop :=
  ∀ (kd N M : Int) (S E : ByteArray) (w : World), i64ok kd → i64ok N → i64ok M → S.size ≤ maxLen → E.size ≤ maxLen →
    Calls Try.prog 17 #[opV kd N M S E] w fun e w' => e = .returned (.bool true) ∧ Below w.heap.size w w'

set_option maxRecDepth 100000 in
set_option maxHeartbeats 1600000 in
theorem kept_no (c N M kd : Int) (S E : ByteArray) (w : World) (NN : Hid (∀ w : World, Calls Try.prog 22 #[.int .i64 c] w fun e w' => e = .returned (.int .i64 c) ∧ w' = w)) (h1 : (c != 0) = true)
    (hrun : ∀ w : World, Calls Try.prog 24 #[.string S, .string E] w fun e w' => e = .returned (.tuple #[.string ⟨#[]⟩, .int .i64 c]) ∧ Below w.heap.size w w') :
    Calls Try.prog 17 #[.agg #[.int .i64 kd, .int .i64 N, .int .i64 M, .string S, .string E]] w fun e w' => e = .returned (.bool true) ∧ Below w.heap.size w w' := by
  go_enter Try.func17, Try.ntmps17
  go_wp2_with fail
  refine (hrun _).mono ?_
  rintro e w1 ⟨rfl, hb1⟩
  go_wp2_with (go_at_call 22; refine (NN.out _).mono ?_; rintro e w9 ⟨rfl, rfl⟩)
  go_ret
  exact ⟨rfl, ((Below.refl _ _).alloc (Nat.le_refl _) _).trans (hb1.mono (by simp))⟩

theorem getX (tr : List UInt8) (X : ByteArray) (hX : X = ⟨tr.toArray⟩) (i : Nat) (c : UInt8) (h : ∃ hi : i < tr.length, tr[i] = c) : ∃ hi : i < X.size, X[i].toNat = c.toNat := by
  subst hX
  obtain ⟨hi, e⟩ := h
  refine ⟨by show i < tr.toArray.size; simpa using hi, ?_⟩
  rw [← e]
  rfl

theorem bk_start (w : World) (T : Nat) : BK (w.alloc (Obj.cells #[.int .i64 0, .int .i64 0, .int .i64 0, .int .i64 0, .int .i64 0, .int .i64 0, .int .i64 0, .int .i64 0, .int .i64 0, .int .i64 0, .int .i64 0, .int .i64 0, .int .i64 0, .int .i64 0, .int .i64 0, .int .i64 0, .int .i64 0, .int .i64 0] T)) w.heap.size st0.left st0.due := by
  refine ⟨by simp, fun i hi => ?_, fun i hi => ?_, fun j => by simp⟩
  · have : i = 0 ∨ i = 1 ∨ i = 2 ∨ i = 3 ∨ i = 4 ∨ i = 5 ∨ i = 6 ∨ i = 7 ∨ i = 8 := by omega
    rcases this with h | h | h | h | h | h | h | h | h <;> subst h <;> simp [st0]
  · have : i = 0 ∨ i = 1 ∨ i = 2 ∨ i = 3 ∨ i = 4 ∨ i = 5 ∨ i = 6 ∨ i = 7 ∨ i = 8 := by omega
    rcases this with h | h | h | h | h | h | h | h | h <;> subst h <;> simp [st0]

/-- What holds at a round's head. -/
structure KW (w wr : World) (p : Nat) (S E : ByteArray) (l : List Tk) (tr : List UInt8) (k : Nat) (st : St) : Prop where
  inv : KInv l st k
  tr : tr = traceOf l st (E.data.toList.drop k)
  ev : evOk l.length (E.data.toList.drop k) = true
  book : BK wr p st.left st.due
  hq : w.heap.size < p
  cS : wr.cell? ⟨w.heap.size, 3, none⟩ = some (.string S)
  cE : wr.cell? ⟨w.heap.size, 4, none⟩ = some (.string E)
  below : Below w.heap.size w wr

theorem KW.next {w wr wr' : World} {p : Nat} {S E : ByteArray} {l : List Tk} {tr : List UInt8} {k k' : Nat} {st st' : St} (h : KW w wr p S E l tr k st) (ho : BKonly p wr wr') (hb : BK wr' p st'.left st'.due)
    (hi : KInv l st' k') (ht : tr = traceOf l st' (E.data.toList.drop k')) (he : evOk l.length (E.data.toList.drop k') = true) : KW w wr' p S E l tr k' st' := by
  have hne : w.heap.size ≠ p := by have := h.hq; omega
  have cc : ∀ j, wr'.cell? ⟨w.heap.size, j, none⟩ = wr.cell? ⟨w.heap.size, j, none⟩ := fun j => World.cell?_of_block (w := wr) (a := ⟨w.heap.size, j, none⟩) (ho.2.2 _ hne)
  exact ⟨hi, ht, he, hb, h.hq, (cc 3).trans h.cS, (cc 4).trans h.cE, h.below.trans (ho.1.mono (Nat.le_of_lt h.hq))⟩

set_option maxRecDepth 100000 in
set_option maxHeartbeats 3200000 in
theorem kept_run (N M kd : Int) (S E X : ByteArray) (l : List Tk) (w : World) (N0 : Hid (∀ w : World, Calls Try.prog 22 #[.int .i64 0] w fun e w' => e = .returned (.int .i64 0) ∧ w' = w))
    (hrun : ∀ w : World, Calls Try.prog 24 #[.string S, .string E] w fun e w' => e = .returned (.tuple #[.string X, .int .i64 0]) ∧ Below w.heap.size w w')
    (hX : X = ⟨(traceOf l st0 E.data.toList).toArray⟩) (hall : ∀ t, wanted l t ≤ t) (hl : ∀ x ∈ l, okTk x) (hx : ∀ x ∈ l, x.c ≤ 9 ∧ x.d ≤ 9 ∧ 1 ≤ x.t ∧ x.t ≤ 9) (hl8 : l.length ≤ 8) (hE9 : E.size ≤ 9000) (hev : evOk l.length E.data.toList = true)
    (hS31 : S.size ≤ 31) (hSd : ∀ i, i < l.length → ∃ h : 4 * i + 1 < S.size, S[4 * i + 1].toNat = (tkOf l i).d + 48) :
    Calls Try.prog 17 #[.agg #[.int .i64 kd, .int .i64 N, .int .i64 M, .string S, .string E]] w fun e w' => e = .returned (.bool true) ∧ Below w.heap.size w w' := by
  have hlen : (traceOf l st0 E.data.toList).length ≤ 18000 := by
    have := trace_len l E.data.toList.length E.data.toList st0 (Nat.le_refl _)
    simp only [st0, List.length_nil, Array.length_toList, ByteArray.size_data] at this ⊢
    omega
  obtain ⟨tr, htr⟩ : ∃ tr, tr = traceOf l st0 E.data.toList := ⟨_, rfl⟩
  rw [← htr] at hX hlen
  have hXs : X.size = tr.length := by rw [hX]; show tr.toArray.size = _; simp
  have HXs : Hid (X.size = tr.length) := hXs
  have HX : Hid (X = ⟨tr.toArray⟩) := hX
  have hX8 : X.size ≤ 18000 := by omega
  have H0 : Hid (KInv l st0 0) := kinv_start l hall
  have HTr : Hid (tr = traceOf l st0 E.data.toList) := htr
  have HEv : Hid (evOk l.length E.data.toList = true) := hev
  have HAll : Hid (∀ t, wanted l t ≤ t) := hall
  have HOk : Hid (∀ x ∈ l, okTk x) := hl
  have HBd : Hid (∀ x ∈ l, x.c ≤ 9 ∧ x.d ≤ 9 ∧ 1 ≤ x.t ∧ x.t ≤ 9) := hx
  have HSd : Hid (∀ i, i < l.length → ∃ h : 4 * i + 1 < S.size, S[4 * i + 1].toNat = (tkOf l i).d + 48) := hSd
  have HL8 : Hid (l.length ≤ 8) := hl8
  clear hXs hX htr hev hall hl hx hSd hlen hl8
  go_enter Try.func17, Try.ntmps17
  go_wp2_with fail
  refine (hrun _).mono ?_
  rintro e w1 ⟨rfl, hb1⟩
  obtain ⟨cc1, _⟩ := bcellL hb1
  have q3 : w1.cell? ⟨w.heap.size, 3, none⟩ = some (.string S) := by rw [cc1 _ _ (by simp)]; simp
  have q4 : w1.cell? ⟨w.heap.size, 4, none⟩ = some (.string E) := by rw [cc1 _ _ (by simp)]; simp
  have zs : w.heap.size < w1.heap.size := by have := hb1.size; simp only [World.size_alloc] at this; omega
  have B : Below w.heap.size w w1 := ((Below.refl _ _).alloc (Nat.le_refl _) _).trans (hb1.mono (by simp))
  clear cc1 hb1 hrun
  go_wp2_with (go_at_call 22; refine (N0.out _).mono ?_; rintro e w9 ⟨rfl, rfl⟩)
  have hbk := bk_start w9 41
  have hlt9 : w9.heap.size < (w9.alloc (Obj.cells #[.int .i64 0, .int .i64 0, .int .i64 0, .int .i64 0, .int .i64 0, .int .i64 0, .int .i64 0, .int .i64 0, .int .i64 0, .int .i64 0, .int .i64 0, .int .i64 0, .int .i64 0, .int .i64 0, .int .i64 0, .int .i64 0, .int .i64 0, .int .i64 0] 41)).heap.size := by simp
  have hK0 : KW w (w9.alloc (Obj.cells #[.int .i64 0, .int .i64 0, .int .i64 0, .int .i64 0, .int .i64 0, .int .i64 0, .int .i64 0, .int .i64 0, .int .i64 0, .int .i64 0, .int .i64 0, .int .i64 0, .int .i64 0, .int .i64 0, .int .i64 0, .int .i64 0, .int .i64 0, .int .i64 0] 41)) w9.heap.size S E l tr 0 st0 := by
    have hba := (Below.refl w9.heap.size w9).alloc (Nat.le_refl _) (Obj.cells #[.int .i64 0, .int .i64 0, .int .i64 0, .int .i64 0, .int .i64 0, .int .i64 0, .int .i64 0, .int .i64 0, .int .i64 0, .int .i64 0, .int .i64 0, .int .i64 0, .int .i64 0, .int .i64 0, .int .i64 0, .int .i64 0, .int .i64 0, .int .i64 0] 41)
    refine ⟨H0.out, by simpa using HTr.out, by simpa using HEv.out, hbk, zs, ?_, ?_, B.alloc B.size _⟩
    · rw [hba.cell (p := ⟨w.heap.size, 3, none⟩) zs]; exact q3
    · rw [hba.cell (p := ⟨w.heap.size, 4, none⟩) zs]; exact q4
  clear hbk hlt9 q3 q4
  generalize w9.alloc (Obj.cells #[.int .i64 0, .int .i64 0, .int .i64 0, .int .i64 0, .int .i64 0, .int .i64 0, .int .i64 0, .int .i64 0, .int .i64 0, .int .i64 0, .int .i64 0, .int .i64 0, .int .i64 0, .int .i64 0, .int .i64 0, .int .i64 0, .int .i64 0, .int .i64 0] 41) = W0 at *
  obtain ⟨p, hp⟩ : ∃ p, p = w9.heap.size := ⟨_, rfl⟩
  rw [← hp] at hK0 ⊢
  have HK0 : Hid (KW w W0 p S E l tr 0 st0) := hK0
  clear hp hK0 zs B
  go_loopw [6, 7, 8, 9, 10, 11] (fun nv av i _ _ _ wr => ∃ (k nw at1 : Nat) (st : St), k ≤ E.size ∧ i = .int .i64 k ∧ nv = .int .i64 nw ∧ av = .int .i64 at1 ∧ nw = st.now ∧ at1 = st.out.length ∧ KW w wr p S E l tr k st) (fun _ _ i _ _ _ _ => E.size - (intOf i).toNat)
  case atStart => exact ⟨0, 0, 0, st0, by omega, rfl, rfl, rfl, rfl, rfl, HK0.out⟩
  case round =>
    obtain ⟨k, nw, at1, st, hk, rfl, rfl, rfl, hnw, hat, hKW⟩ := hrel
    have HK : Hid (KW w wr p S E l tr k st) := hKW
    have q3 := hKW.cS
    have q4 := hKW.cE
    have bn : nw ≤ 9000 := by have := hKW.inv.bnd.now; omega
    have bo : at1 ≤ 18000 := by have := hKW.inv.bnd.out; omega
    have hpp := hKW.book.hp
    have HNW : Hid (nw = st.now) := hnw
    have HAT : Hid (at1 = st.out.length) := hat
    clear hKW HK0 hnw hat
    by_cases hlt : k < E.size
    · have hd1 := drop_one E k hlt
      have htr := HK.out.tr
      have hev := HK.out.ev
      rw [hd1] at htr hev
      by_cases hdot : E[k].toNat = 46
      · rw [traceOf_dot l st _ _ hdot] at htr
        rw [evOk_dot _ _ _ hdot] at hev
        have hd : ((E[k].toNat : Int) == 46) = true := by simp; omega
        rcases kinv_tick HAll.out HK.out.inv with ⟨ht, hz, hi'⟩ | ⟨j, hj, hpj, ht, hi'⟩
        · rw [ht, if_pos rfl] at htr
          obtain ⟨hiX, hcX⟩ := getX tr X HX.out at1 45 (by rw [HAT.out]; exact trace_at l _ _ tr st.out 45 htr rfl)
          have HN : Hid (KW w wr p S E l tr (k + 1) (tell { st with now := st.now + 1 } 45)) := HK.out.next (bkonly_drewN p 0 wr) (HK.out.book) hi' htr hev
          have HWk : Hid (Calls Try.prog 25 #[.pointer (some ⟨p, 0, none⟩), .int .u8 45, .int .i64 ((nw : Int) + 1)] wr fun e w' => e = .returned (.bool true) ∧ w' = wr) := by
            have := worked_idle wr p (nw + 1) st.left st.due HK.out.book (fun i _ => hz i)
            rw [Int.natCast_add] at this
            exact this
          have hc45 : (X[at1].toNat : Int) = 45 := by rw [hcX]; rfl
          have HO : Hid (at1 + 1 = (tell { st with now := st.now + 1 } 45).out.length) := by unfold Hid tell; rw [HAT.out]; simp
          have HW2 : Hid (nw + 1 = (tell { st with now := st.now + 1 } 45).now) := by unfold Hid tell; rw [HNW.out]
          have g1 : (at1 : Int) < (X.size : Int) := by omega
          clear hd1 hdot hev htr ht hz hi' hcX
          go_wp2_with (go_at_call 25; refine HWk.out.mono ?_; rintro e w2 ⟨rfl, rfl⟩)
          go_roundw
          case rel => exact ⟨k + 1, nw + 1, at1 + 1, _, by omega, by go_num, by go_num, by go_num, HW2.out, HO.out, HN.out⟩
          case measure => simp [intOf]; omega
        · rw [ht, if_pos rfl] at htr
          have hj8 : j < 8 := Nat.lt_of_lt_of_le hj HL8.out
          obtain ⟨a, ha⟩ : ∃ a, st.left j = a + 1 := ⟨st.left j - 1, by omega⟩
          have hwo : worked st j = { st with left := upd st.left j a, now := st.now + 1, out := st.out ++ [if a = 0 then UInt8.ofNat (65 + j) else UInt8.ofNat (97 + j)] } := by
            unfold worked; rw [ha, Nat.add_sub_cancel]
          have hlate : lateFree (nw + 1) (upd st.left j a) st.due := by
            intro i _ hp
            have := kinv_late hi' i (by rw [hwo]; exact hp)
            rw [hwo] at this
            rw [HNW.out]
            exact this
          have ba : a ≤ 9 := by have := kinv_left HK.out.inv j; omega
          have bd : ∀ i, i < 9 → st.due i ≤ 10000 := fun i _ => by have := kinv_due HK.out.inv i; omega
          have bl : ∀ i, i < 9 → st.left i ≤ 9 := fun i _ => kinv_left HK.out.inv i
          have HO : Hid (at1 + 1 = (worked st j).out.length) := by unfold Hid; rw [hwo, HAT.out]; simp
          have HW2 : Hid (nw + 1 = (worked st j).now) := by unfold Hid; rw [hwo, HNW.out]
          have HNx : Hid (∀ w', BK w' p (upd st.left j a) st.due → BKonly p wr w' → KW w w' p S E l tr (k + 1) (worked st j)) := fun w' h1 h2 => HK.out.next h2 (by rw [hwo]; exact h1) hi' htr hev
          by_cases ha0 : a = 0
          · obtain ⟨hiX, hcX⟩ := getX tr X HX.out at1 (UInt8.ofNat (65 + j)) (by rw [HAT.out]; refine trace_at l _ _ tr st.out _ htr ?_; rw [hwo, if_pos ha0])
            have hcI : (X[at1].toNat : Int) = 65 + (j : Int) := by rw [hcX, UInt8.toNat_ofNat_of_lt' (by show _ < 256; omega)]; omega
            have HWk : Hid (Calls Try.prog 25 #[.pointer (some ⟨p, 0, none⟩), .int .u8 (65 + (j : Int)), .int .i64 ((nw : Int) + 1)] wr fun e w' => e = .returned (.bool true) ∧ BK w' p (upd st.left j a) st.due ∧ BKonly p wr w') := by
              have := worked_done wr p (nw + 1) j a st.left st.due HK.out.book hj8 ha ba bd bl (by omega) hlate ha0
              rw [Int.natCast_add] at this
              exact this
            have g1 : (at1 : Int) < (X.size : Int) := by omega
            clear hd1 hdot hev htr ht hi' hcX hwo hlate bd bl ha0 hpj ha
            go_wp2_with (go_at_call 25; refine HWk.out.mono ?_; rintro e w2 ⟨rfl, hb2, ho2⟩)
            go_roundw
            case rel => exact ⟨k + 1, nw + 1, at1 + 1, _, by omega, by go_num, by go_num, by go_num, HW2.out, HO.out, HNx.out _ hb2 ho2⟩
            case measure => simp [intOf]; omega
          · obtain ⟨hiX, hcX⟩ := getX tr X HX.out at1 (UInt8.ofNat (97 + j)) (by rw [HAT.out]; refine trace_at l _ _ tr st.out _ htr ?_; rw [hwo, if_neg ha0])
            have hcI : (X[at1].toNat : Int) = 97 + (j : Int) := by rw [hcX, UInt8.toNat_ofNat_of_lt' (by show _ < 256; omega)]; omega
            have HWk : Hid (Calls Try.prog 25 #[.pointer (some ⟨p, 0, none⟩), .int .u8 (97 + (j : Int)), .int .i64 ((nw : Int) + 1)] wr fun e w' => e = .returned (.bool true) ∧ BK w' p (upd st.left j a) st.due ∧ BKonly p wr w') := by
              have := worked_more wr p (nw + 1) j a st.left st.due HK.out.book hj8 ha (by omega) ba bd bl (by omega) hlate
              rw [Int.natCast_add] at this
              exact this
            have g1 : (at1 : Int) < (X.size : Int) := by omega
            clear hd1 hdot hev htr ht hi' hcX hwo hlate bd bl ha0 hpj ha
            go_wp2_with (go_at_call 25; refine HWk.out.mono ?_; rintro e w2 ⟨rfl, hb2, ho2⟩)
            go_roundw
            case rel => exact ⟨k + 1, nw + 1, at1 + 1, _, by omega, by go_num, by go_num, by go_num, HW2.out, HO.out, HNx.out _ hb2 ho2⟩
            case measure => simp [intOf]; omega
      · have hd : ((E[k].toNat : Int) == 46) = false := by simp; omega
        by_cases h2 : k + 1 < E.size
        · have hd2 := drop_one E (k + 1) h2
          rw [hd2] at htr hev
          rw [traceOf_two l st _ _ _ hdot] at htr
          rw [evOk_two _ _ _ _ hdot] at hev
          simp only [Bool.and_eq_true, decide_eq_true_eq] at hev
          obtain ⟨⟨⟨⟨a1, a2⟩, a3⟩, a4⟩, a5⟩ := hev
          have htr2 : tr = traceOf l (arrive l st (E[k].toNat - 97) (E[k + 1].toNat - 48)) (E.data.toList.drop (k + 2)) := htr
          have hev2 : evOk l.length (E.data.toList.drop (k + 2)) = true := a5
          have hbE := E[k].toNat_lt
          have hbE1 := E[k + 1].toNat_lt
          obtain ⟨j, hj⟩ : ∃ j, j = E[k].toNat - 97 := ⟨_, rfl⟩
          obtain ⟨m, hm⟩ : ∃ m, m = E[k + 1].toNat - 48 := ⟨_, rfl⟩
          rw [← hj, ← hm] at htr2
          rw [← hj] at a2
          have hj8 : j < 8 := Nat.lt_of_lt_of_le a2 HL8.out
          have r1 : (E[k].toNat : Int) - 97 = (j : Int) := by omega
          have r2 : (E[k + 1].toNat : Int) - 48 = (m : Int) := by omega
          have r3 : ((k : Int) + 1).toNat = k + 1 := by omega
          have r4 : (E[k].toNat : Int) ≤ 255 := by omega
          have r5 : (E[k + 1].toNat : Int) ≤ 255 := by omega
          have hm9 : m ≤ 9 := by omega
          have hKi : KInv l (arrive l st j m) (k + 2) := by
            have := kinv_arrive HOk.out HBd.out HK.out.inv j m a2
            exact ⟨this.einv, bnd_mono this.bnd (by omega), this.far⟩
          obtain ⟨hiX, hcX⟩ := getX tr X HX.out at1 (arrByte l st j m) (by rw [HAT.out]; exact trace_at l _ _ tr st.out _ htr2 (arrive_out l st j m))
          have HO : Hid (at1 + 1 = (arrive l st j m).out.length) := by unfold Hid; rw [arrive_out, HAT.out]; simp
          have g1 : (at1 : Int) < (X.size : Int) := by omega
          have g2 : (k : Int) + 1 < (E.size : Int) := by omega
          have g3 : (0 : Int) ≤ (k : Int) + 1 := by omega
          have g4 : (0 : Int) ≤ (j : Int) := by omega
          have g5 : (j : Int) < 9 := by omega
          have g6 : (j : Int) ≤ 7 := by omega
          have hcl := HK.out.book.left j (by omega)
          have hcd := HK.out.book.due j (by omega)
          have fz := HK.out.book.fz
          by_cases e1 : m < 1 ∨ (tkOf l j).c < m
          · have hst : arrive l st j m = tell st 63 := by unfold arrive; rw [if_pos e1]
            have hcI : (X[at1].toNat : Int) = 63 := by rw [hcX, arrByte, if_pos e1]; rfl
            have HN : Hid (KW w wr p S E l tr (k + 2) (arrive l st j m)) := HK.out.next (bkonly_drewN p 0 wr) (by rw [hst]; exact HK.out.book) hKi htr2 hev2
            have HW2 : Hid (nw = (arrive l st j m).now) := by unfold Hid; rw [hst, HNW.out]; rfl
            clear hd1 hd2 hdot htr htr2 hev2 a5 hcX hst hKi hcl hcd fz hj hm
            go_wp2
            go_roundw
            case rel => exact ⟨k + 2, nw, at1 + 1, _, by omega, by go_num, rfl, by go_num, HW2.out, HO.out, HN.out⟩
            case measure => simp [intOf]; omega
          · by_cases e2 : 0 ≤ st.last j ∧ (st.now : Int) - st.last j < (tkOf l j).t
            · have hst : arrive l st j m = tell st 33 := by unfold arrive; rw [if_neg e1, if_pos e2]
              have hcI : (X[at1].toNat : Int) = 33 := by rw [hcX, arrByte, if_neg e1, if_pos e2]; rfl
              have HN : Hid (KW w wr p S E l tr (k + 2) (arrive l st j m)) := HK.out.next (bkonly_drewN p 0 wr) (by rw [hst]; exact HK.out.book) hKi htr2 hev2
              have HW2 : Hid (nw = (arrive l st j m).now) := by unfold Hid; rw [hst, HNW.out]; rfl
              clear hd1 hd2 hdot htr htr2 hev2 a5 hcX hst hKi hcl hcd fz hj hm
              go_wp2
              go_roundw
              case rel => exact ⟨k + 2, nw, at1 + 1, _, by omega, by go_num, rfl, by go_num, HW2.out, HO.out, HN.out⟩
              case measure => simp [intOf]; omega
            · have hst : arrive l st j m = tell { st with left := upd st.left j m, due := upd st.due j (st.now + (tkOf l j).d), last := upd st.last j st.now } 43 := by unfold arrive; rw [if_neg e1, if_neg e2]
              have hcI : (X[at1].toNat : Int) = 43 := by rw [hcX, arrByte, if_neg e1, if_neg e2]; rfl
              have hz := einv_done HOk.out HK.out.inv.einv j a2 e2
              rw [hz] at hcl
              obtain ⟨hS1, hS2⟩ := HSd.out j a2
              obtain ⟨d, hdd⟩ : ∃ d, d = (tkOf l j).d := ⟨_, rfl⟩
              rw [← hdd] at hS2 hst
              have hd9 : d ≤ 9 := by rw [hdd]; exact (HBd.out _ (tkOf_mem l j a2)).2.1
              have HDg : Hid (∀ w, Calls Try.prog 26 #[.string S, .int .i64 j, .int .i64 1] w fun e w' => e = .returned (.int .i64 d) ∧ w' = w) := fun w => digit_one S j d w hS31 hS1 hS2
              have HN : Hid (∀ w', BK w' p (upd st.left j m) (upd st.due j (nw + d)) → BKonly p wr w' → KW w w' p S E l tr (k + 2) (arrive l st j m)) := fun w' h1 h2 => HK.out.next h2 (by rw [hst]; rw [HNW.out] at h1; exact h1) hKi htr2 hev2
              have HW2 : Hid (nw = (arrive l st j m).now) := by unfold Hid; rw [hst, HNW.out]; rfl
              have HB1 : Hid (BK (wr.setCell ⟨p, j, none⟩ (.int .i64 (m : Int))).drew p (upd st.left j m) st.due) := (HK.out.book.setLeft j m (by omega)).drewN 1
              have hpq : p ≠ w.heap.size := by have := HK.out.hq; omega
              have hqp : w.heap.size ≠ p := by omega
              have fzj := fz j
              clear hd1 hd2 hdot htr htr2 hev2 a5 hcX hst hKi hcd hj hm hz e1 e2 hS1 hS2 hdd fz
              go_upto_region 27 with fail
              go_big_region
              go_upto_region 27 with fail
              have HO1 : Hid (BKonly p wr (wr.setCell ⟨p, j, none⟩ (.int .i64 (m : Int))).drew) := bkonly_set p j 1 wr _
              generalize (wr.setCell ⟨p, j, none⟩ (.int .i64 (m : Int))).drew = W1 at *
              have s3 : W1.cell? ⟨w.heap.size, 3, none⟩ = some (.string S) := (World.cell?_of_block (w := wr) (a := ⟨w.heap.size, 3, none⟩) (HO1.out.2.2 _ hqp)).trans q3
              have s4 : W1.cell? ⟨w.heap.size, 4, none⟩ = some (.string E) := (World.cell?_of_block (w := wr) (a := ⟨w.heap.size, 4, none⟩) (HO1.out.2.2 _ hqp)).trans q4
              have d1 := HB1.out.due j (by omega)
              have fd1 := HB1.out.fz (9 + j)
              have hp1 := HB1.out.hp
              clear q3 q4 hcl fzj hpp
              go_region_held3 (fun w' => w'.cell? ⟨w.heap.size, 3, none⟩ = some (.string S)) (go_keep) ((go_at_call 26; refine (HDg.out _).mono ?_; rintro e w9 ⟨rfl, rfl⟩))
              go_wp2
              have HD2 := HB1.out.setDue j (nw + d) (by omega)
              rw [Int.natCast_add] at HD2
              go_roundw
              case rel =>
                refine ⟨k + 2, nw, at1 + 1, _, by omega, by go_num, rfl, by go_num, HW2.out, HO.out, HN.out _ ?_ ?_⟩
                · first | exact HD2 | exact HD2.drewN 1 | exact HD2.drewN 2
                · first | exact bkonly_trans HO1.out (bkonly_set p (9 + j) 0 W1 _) | exact bkonly_trans HO1.out (bkonly_set p (9 + j) 1 W1 _) | exact bkonly_trans HO1.out (bkonly_set p (9 + j) 2 W1 _)
              case measure => simp [intOf]; omega
        · exfalso
          rw [List.drop_eq_nil_of_le (by simp; omega), evOk_one _ _ hdot] at hev
          cases hev
    · have hnil : E.data.toList.drop k = [] := List.drop_eq_nil_of_le (by simp; omega)
      have htr := HK.out.tr
      rw [hnil] at htr
      have hlen : X.size = at1 := by rw [HXs.out, htr, HAT.out]; rfl
      have hd : ((at1 : Int) == (X.size : Int)) = true := by rw [hlen]; simp
      clear htr hnil hlen
      go_wp2
      go_ret
      exact ⟨rfl, HK.out.below⟩
end Go.Proofs.Ytdhofmnidlhjpaa
