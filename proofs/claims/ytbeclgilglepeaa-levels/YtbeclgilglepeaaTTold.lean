import Derived.Test.YtbeclgilglepeaaTInv
import Derived.BigRegion
import Derived.Laws.BytesString
namespace Go.Proofs.Ytbeclgilglepeaa
open Go.RowKit

theorem conv_one (c : Nat) (W : World) (b : Nat) (h : W.cell? ⟨b, 0, none⟩ = some (.int .u8 c)) :
    (convert 95 9 (.slice (some ⟨b, 0, none⟩) 1 1)).run Try.prog W = .ok (.string (ByteArray.empty.push (UInt8.ofNat c))) W := by
  rw [run_convert_bytes_string W 95 9 5 _ 1 1 Try.underlying95 Try.underlying5 Try.underlying9]
  rw [run_bytesToString W ⟨b, 0, none⟩ 1 1 [(c : Int)] ?_]
  · simp
  · simp [loadCells, h, go_sem]

theorem out_push (l : List UInt8) (c : UInt8) : (⟨l.toArray⟩ : ByteArray) ++ ByteArray.empty.push c = ⟨(l ++ [c]).toArray⟩ := by
  have : ByteArray.empty.push c = ⟨[c].toArray⟩ := rfl
  rw [this, ByteArray.mk_append_mk]

variable {w0 w : World} {p g1 g2 g3 : Nat} {ao : Option Addr} {cap0 c1 c2 c3 : Nat} {l : List Tk} {st : St}

set_option maxRecDepth 100000 in
set_option maxHeartbeats 800000 in
theorem ref_told (h : PI w0 w p g1 g2 g3 ao cap0 c1 c2 c3 l st) (c : Nat) (hout : st.out.length ≤ 20000) :
    Calls Try.prog 75 #[.pointer (some ⟨p, 0, none⟩), .int .u8 c] w fun e w' => e = .returned (.tuple #[]) ∧ PI w0 w' p g1 g2 g3 ao cap0 c1 c2 c3 l (tell st (UInt8.ofNat c)) := by
  have hp := h.hp.2
  have hcell := h.cS
  have hfz := h.fp 5
  have hlen : (⟨st.out.toArray⟩ : ByteArray).size ≤ 20000 := by show st.out.toArray.size ≤ 20000; simpa using hout
  have hP : Hid (PI w0 ((w.setCell ⟨p, 5, none⟩ (.string ⟨(st.out ++ [UInt8.ofNat c]).toArray⟩)).alloc (Obj.cells #[Value.int IntKind.u8 c] 5)).drew p g1 g2 g3 ao cap0 c1 c2 c3 l (tell st (UInt8.ofNat c))) := ((h.setOut (st.out ++ [UInt8.ofNat c])).alloc _).drew
  have HE : Hid ((⟨st.out.toArray⟩ : ByteArray) ++ ByteArray.empty.push (UInt8.ofNat c) = ⟨(st.out ++ [UInt8.ofNat c]).toArray⟩) := out_push _ _
  clear h hout
  generalize (⟨st.out.toArray⟩ : ByteArray) = S at *
  have hcv : (convert 95 9 (.slice (some ⟨w.heap.size, 0, none⟩) 1 1)).run Try.prog (w.alloc (Obj.cells #[Value.int IntKind.u8 c] 5)).drew = .ok (.string (ByteArray.empty.push (UInt8.ofNat c))) (w.alloc (Obj.cells #[Value.int IntKind.u8 c] 5)).drew := by
    refine conv_one c _ _ ?_
    simp
  go_enter Try.func75, Try.ntmps75
  go_big_region
  go_wp2
  go_end0
  refine ⟨rfl, ?_⟩
  rw [HE.out]
  exact hP.out
end Go.Proofs.Ytbeclgilglepeaa
