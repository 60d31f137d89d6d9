import Derived.Test.YtdhofmnidlhjpabLOpen
import Derived.Test.YtdhofmnidlhjpabLSteady
import Derived.Test.YtdhofmnidlhjpabCCode1
import Derived.Test.YtdhofmnidlhjpabCCalls2
import Derived.Test.YtdhofmnidlhjpabCCalls3
import Derived.Test.YtdhofmnidlhjpabCCalls4
import Derived.Test.YtdhofmnidlhjpabCRun
import Derived.Test.YtdhofmnidlhjpabCBreak
namespace Go.Proofs.Ytdhofmnidlhjpab
open Go.ChangeShapes Go.WideShapes Go.ChangeAt Go.RowKit Go.Deep

theorem law_steady (ao : Option Addr) (n cap : Nat) (w : World) (hn : n ≤ 1000000000000000) (hH : HoldsO w ao n) :
    Calls Try.prog 3 #[.slice ao n cap] w fun e w' => e = .returned (.bool true) ∧ Below w.heap.size w w' := 
  law_steady_of refF brkG code_refute code_break (others_all refF brkG code_check code_demand code_busy code_test code_level code_refute code_room code_run code_free code_break) ao n cap w hn hH

set_option maxRecDepth 100000 in
theorem steady_lifted (os : Os) (started : os.Started) (H : Type) (enc : TypeId × Value → H) :
    ReturnsInHanded {} Try.checked os 3 .any (Rows.steadySpec.pre6 enc Try.prog Try.f3 Rows.steadyRow.domain false) (Rows.steadySpec.post enc Try.prog Try.f3 false true false false) := by
  refine returnsInHanded_of_change_sized (C := Try.checked) Try.own started (by kernel_rfl) Try.func3
    (ChangeSpec.witness6 (enc := enc) (C := Try.checked) false ⟨#[], #[.slice none 0 0], []⟩ 8 (by kernel_rfl) (by kernel_rfl) (by kernel_rfl) (by kernel_rfl)) ?_
  intro W base args ds gs before hval0 hW _ hsz0 _
  have hsz : (DataW.weightsEach Try.prog (Try.f3.params.toList ++ Rows.steadySpec.plain.varTypes Try.prog) (ds ++ gs)).all (· ≤ reachBytes) = true := hsz0
  clear hsz0
  have hval : ∀ (j : Nat) t v, Try.f3.params[j]? = some t → args[j]? = some v → Value.okWide Try.prog W .any base t v := hval0
  have hW' := hW
  obtain ⟨p, q, hA0, hV, rfl, _, _⟩ := hW
  have hA : DataW.TrodAll enc Try.prog W 0 (fun _ => true) true Try.f3.params.toList args.toList ds p := hA0
  rw [Try.params3] at hA hval hsz
  obtain ⟨v0, d0, rfl, rfl, h0⟩ := trodAll_one hA
  obtain ⟨rfl, rfl⟩ := trodVars_none hV
  have h0k := h0
  obtain ⟨fuel, hf⟩ := h0
  clear hA0 hval0
  simp only [List.append_nil] at hW'
  have hlt : ∀ x ∈ p, x.block < W.heap.size := fun x hx => by simpa using hW'.lt x hx
  obtain ⟨a0, len, cap, rfl⟩ := okWide_slice Try.underlying22 (hval 0 22 v0 rfl rfl)
  have fin : HoldsO W a0 len → len ≤ 1000000000000000 → Calls Try.checked.prog 3 #[.slice a0 len cap] W fun e W' => ∃ v, e = Ending.returned v ∧ Rows.steadySpec.post enc Try.checked.prog Try.f3 false true false false W #[.slice a0 len cap] v W' := by
    intro hH hn
    refine (law_steady a0 len cap W hn hH).mono fun e W' ⟨he, hb⟩ => ?_
    subst he
    exact ⟨_, rfl, ⟨_, _, _, [], _, [], hW', trodAll_mk1 (shut_bool Try.underlying4 true), trodAll_mk1 (Below.trod Try.laidOut (by kernel_rfl) (of_decide_eq_true (by kernel_rfl)) h0k hb hlt), rfl, hb.frame _, fun h => by cases h⟩⟩
  rcases open_slice Try.underlying22 hf with ⟨hcs, hx⟩ | ⟨a, len', cap', m, n, D, Pl, hcs, _, hl, hm, hmm, hx, hel⟩
  · simp [Value.cells] at hcs
    obtain ⟨rfl, rfl, rfl⟩ := hcs
    exact fin (fun i hi => by omega) (by omega)
  · simp [Value.cells] at hcs
    obtain ⟨rfl, rfl, rfl⟩ := hcs
    simp only [Prod.mk.injEq] at hx
    obtain ⟨rfl, _⟩ := hx
    simp only [if_true] at hmm
    subst hmm
    have hreach := sized_slice hsz (j := 0) (t := 22) (e := 24) rfl rfl Try.underlying22
    rw [Try.bytesOp] at hreach
    simp only [List.length_map, List.length_range, reachBytes] at hreach
    exact fin (holdsO_of hl hel) (by omega)

theorem steady_holds : Rows.SteadySaid :=
  OpenClaim.holds_of_wide 3 Try.f3 rfl rfl rfl rfl rfl rfl rfl ⟨rfl, rfl, rfl, rfl, rfl⟩ rfl rfl rfl rfl rfl (by kernel_rfl) Try.func3 (by kernel_rfl)
    (of_decide_eq_true (by kernel_rfl)) (by unfold Func.isWrapper; first | (rw [if_pos (by decide +kernel)]; kernel_rfl) | (rw [if_neg (by decide +kernel)]; exact ⟨rfl, rfl⟩))
    (fun os started H enc _ => steady_lifted os started H enc)
#print axioms steady_holds
end Go.Proofs.Ytdhofmnidlhjpab
