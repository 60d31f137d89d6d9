/-
  No cell of these rows narrows 'for every input' (looked for: loops, veiled, ifaces, maps, wideKeys, modest, calm, conditions, laid).
  DERIVED. THE GIVEN ROWS OF THIS SEAT. 12 by the template 'for every input the law returns true; each argument reads behind the call as it read before'; 0 by the template 'total and deterministic' (their statements: YtdhofmnidlhjpaaTotals.lean).
  GIVEN WITH THE SEED: the statements are not yours to turn. If you find one false, say at which input.
  Laid BY PROGRAM, IN A SANDBOX (cutbox-rows.mjs): the forced cells as the released guide's own fill.sh prints them over the translation aa9884eafd727f37… (all of the seat's roots in one cut). By AI agents, Wed Nov 11 2026. No macro, syntax, notation, axiom, sorry.
-/
import Derived.Test.YtdhofmnidlhjpaaChecked
import GoSem.Claim
import GoSem.ClaimJoined
import GoSem.ClaimMapViews
import Derived.JoinedTies
import Derived.KernelRfl
namespace Go.Proofs.Ytdhofmnidlhjpaa
/- THE CELL 'sum', in the pinned program and in every row, IS THE sha256 OF THE DUMP (.gsa) THAT YtdhofmnidlhjpaaProg.lean LOADS. Nothing in Lean hashes anything: it is a label: what it is worth is what the hold of that sum in a sandbox is worth. -/
noncomputable def Try.pinned : Pinned := { name := "ytdhofmnidlhjpaa", sum := "aa9884eafd727f373183d3742b14ed20d89edf1212a4fb2a29548a7a8cf7bcee", checked := Try.checked }
namespace Rows
def none {H : Type} : Left H := { results := [], args := [] }

/-- 'deadlinelaw.Checks': WHATEVER THE INPUT: true; the input reads as it did. -/
def checksSpec : ChangeSpec := { name := "checks", fn := fun _ => fun
  | [d] => { results := [.lit (.bool true)], args := [d] }
  | _ => none }
def checksRow : OpenClaim := { program := "ytdhofmnidlhjpaa", sum := "aa9884eafd727f373183d3742b14ed20d89edf1212a4fb2a29548a7a8cf7bcee", func := "deadline/deadlinelaw.Checks", spec := "checks", apart := false }
def ChecksSaid : Prop := checksRow.holds Try.pinned (OpenSpec.ofChange checksSpec)

/-- ITS FALSE NEIGHBOUR: 'it returns false'. Refute it at one input. -/
def checksWrong : ChangeSpec := { name := "checks", fn := fun _ => fun
  | [d] => { results := [.lit (.bool false)], args := [d] }
  | _ => none }
def ChecksWrongFalsely : Prop := checksRow.holds Try.pinned (OpenSpec.ofChange checksWrong)

/-- 'deadlinelaw.Demands': WHATEVER THE INPUT: true; the input reads as it did. -/
def demandsSpec : ChangeSpec := { name := "demands", fn := fun _ => fun
  | [d] => { results := [.lit (.bool true)], args := [d] }
  | _ => none }
def demandsRow : OpenClaim := { program := "ytdhofmnidlhjpaa", sum := "aa9884eafd727f373183d3742b14ed20d89edf1212a4fb2a29548a7a8cf7bcee", func := "deadline/deadlinelaw.Demands", spec := "demands", apart := false }
def DemandsSaid : Prop := demandsRow.holds Try.pinned (OpenSpec.ofChange demandsSpec)

/-- ITS FALSE NEIGHBOUR: 'it returns false'. Refute it at one input. -/
def demandsWrong : ChangeSpec := { name := "demands", fn := fun _ => fun
  | [d] => { results := [.lit (.bool false)], args := [d] }
  | _ => none }
def DemandsWrongFalsely : Prop := demandsRow.holds Try.pinned (OpenSpec.ofChange demandsWrong)

/-- 'deadlinelaw.Busies': WHATEVER THE INPUT: true; the input reads as it did. -/
def busiesSpec : ChangeSpec := { name := "busies", fn := fun _ => fun
  | [d] => { results := [.lit (.bool true)], args := [d] }
  | _ => none }
def busiesRow : OpenClaim := { program := "ytdhofmnidlhjpaa", sum := "aa9884eafd727f373183d3742b14ed20d89edf1212a4fb2a29548a7a8cf7bcee", func := "deadline/deadlinelaw.Busies", spec := "busies", apart := false }
def BusiesSaid : Prop := busiesRow.holds Try.pinned (OpenSpec.ofChange busiesSpec)

/-- ITS FALSE NEIGHBOUR: 'it returns false'. Refute it at one input. -/
def busiesWrong : ChangeSpec := { name := "busies", fn := fun _ => fun
  | [d] => { results := [.lit (.bool false)], args := [d] }
  | _ => none }
def BusiesWrongFalsely : Prop := busiesRow.holds Try.pinned (OpenSpec.ofChange busiesWrong)

/-- 'deadlinelaw.Tests': WHATEVER THE INPUT: true; the input reads as it did. -/
def testsSpec : ChangeSpec := { name := "tests", fn := fun _ => fun
  | [d] => { results := [.lit (.bool true)], args := [d] }
  | _ => none }
def testsRow : OpenClaim := { program := "ytdhofmnidlhjpaa", sum := "aa9884eafd727f373183d3742b14ed20d89edf1212a4fb2a29548a7a8cf7bcee", func := "deadline/deadlinelaw.Tests", spec := "tests", apart := false }
def TestsSaid : Prop := testsRow.holds Try.pinned (OpenSpec.ofChange testsSpec)

/-- ITS FALSE NEIGHBOUR: 'it returns false'. Refute it at one input. -/
def testsWrong : ChangeSpec := { name := "tests", fn := fun _ => fun
  | [d] => { results := [.lit (.bool false)], args := [d] }
  | _ => none }
def TestsWrongFalsely : Prop := testsRow.holds Try.pinned (OpenSpec.ofChange testsWrong)

/-- 'deadlinelaw.Levels': WHATEVER THE INPUT: true; the input reads as it did. -/
def levelsSpec : ChangeSpec := { name := "levels", fn := fun _ => fun
  | [d] => { results := [.lit (.bool true)], args := [d] }
  | _ => none }
def levelsRow : OpenClaim := { program := "ytdhofmnidlhjpaa", sum := "aa9884eafd727f373183d3742b14ed20d89edf1212a4fb2a29548a7a8cf7bcee", func := "deadline/deadlinelaw.Levels", spec := "levels", apart := false }
def LevelsSaid : Prop := levelsRow.holds Try.pinned (OpenSpec.ofChange levelsSpec)

/-- ITS FALSE NEIGHBOUR: 'it returns false'. Refute it at one input. -/
def levelsWrong : ChangeSpec := { name := "levels", fn := fun _ => fun
  | [d] => { results := [.lit (.bool false)], args := [d] }
  | _ => none }
def LevelsWrongFalsely : Prop := levelsRow.holds Try.pinned (OpenSpec.ofChange levelsWrong)

/-- 'deadlinelaw.Refutes': WHATEVER THE INPUT: true; the input reads as it did. -/
def refutesSpec : ChangeSpec := { name := "refutes", fn := fun _ => fun
  | [d] => { results := [.lit (.bool true)], args := [d] }
  | _ => none }
def refutesRow : OpenClaim := { program := "ytdhofmnidlhjpaa", sum := "aa9884eafd727f373183d3742b14ed20d89edf1212a4fb2a29548a7a8cf7bcee", func := "deadline/deadlinelaw.Refutes", spec := "refutes", apart := false }
def RefutesSaid : Prop := refutesRow.holds Try.pinned (OpenSpec.ofChange refutesSpec)

/-- ITS FALSE NEIGHBOUR: 'it returns false'. Refute it at one input. -/
def refutesWrong : ChangeSpec := { name := "refutes", fn := fun _ => fun
  | [d] => { results := [.lit (.bool false)], args := [d] }
  | _ => none }
def RefutesWrongFalsely : Prop := refutesRow.holds Try.pinned (OpenSpec.ofChange refutesWrong)

/-- 'deadlinelaw.Rooms': WHATEVER THE INPUT: true; the input reads as it did. -/
def roomsSpec : ChangeSpec := { name := "rooms", fn := fun _ => fun
  | [d] => { results := [.lit (.bool true)], args := [d] }
  | _ => none }
def roomsRow : OpenClaim := { program := "ytdhofmnidlhjpaa", sum := "aa9884eafd727f373183d3742b14ed20d89edf1212a4fb2a29548a7a8cf7bcee", func := "deadline/deadlinelaw.Rooms", spec := "rooms", apart := false }
def RoomsSaid : Prop := roomsRow.holds Try.pinned (OpenSpec.ofChange roomsSpec)

/-- ITS FALSE NEIGHBOUR: 'it returns false'. Refute it at one input. -/
def roomsWrong : ChangeSpec := { name := "rooms", fn := fun _ => fun
  | [d] => { results := [.lit (.bool false)], args := [d] }
  | _ => none }
def RoomsWrongFalsely : Prop := roomsRow.holds Try.pinned (OpenSpec.ofChange roomsWrong)

/-- 'deadlinelaw.Safe': WHATEVER THE INPUT: true; the input reads as it did. -/
def safeSpec : ChangeSpec := { name := "safe", fn := fun _ => fun
  | [d] => { results := [.lit (.bool true)], args := [d] }
  | _ => none }
def safeRow : OpenClaim := { program := "ytdhofmnidlhjpaa", sum := "aa9884eafd727f373183d3742b14ed20d89edf1212a4fb2a29548a7a8cf7bcee", func := "deadline/deadlinelaw.Safe", spec := "safe", apart := false }
def SafeSaid : Prop := safeRow.holds Try.pinned (OpenSpec.ofChange safeSpec)

/-- ITS FALSE NEIGHBOUR: 'it returns false'. Refute it at one input. -/
def safeWrong : ChangeSpec := { name := "safe", fn := fun _ => fun
  | [d] => { results := [.lit (.bool false)], args := [d] }
  | _ => none }
def SafeWrongFalsely : Prop := safeRow.holds Try.pinned (OpenSpec.ofChange safeWrong)

/-- 'deadlinelaw.Runs': WHATEVER THE INPUT: true; the input reads as it did. -/
def runsSpec : ChangeSpec := { name := "runs", fn := fun _ => fun
  | [d] => { results := [.lit (.bool true)], args := [d] }
  | _ => none }
def runsRow : OpenClaim := { program := "ytdhofmnidlhjpaa", sum := "aa9884eafd727f373183d3742b14ed20d89edf1212a4fb2a29548a7a8cf7bcee", func := "deadline/deadlinelaw.Runs", spec := "runs", apart := false }
def RunsSaid : Prop := runsRow.holds Try.pinned (OpenSpec.ofChange runsSpec)

/-- ITS FALSE NEIGHBOUR: 'it returns false'. Refute it at one input. -/
def runsWrong : ChangeSpec := { name := "runs", fn := fun _ => fun
  | [d] => { results := [.lit (.bool false)], args := [d] }
  | _ => none }
def RunsWrongFalsely : Prop := runsRow.holds Try.pinned (OpenSpec.ofChange runsWrong)

/-- 'deadlinelaw.Breaks': WHATEVER THE INPUT: true; the input reads as it did. -/
def breaksSpec : ChangeSpec := { name := "breaks", fn := fun _ => fun
  | [d] => { results := [.lit (.bool true)], args := [d] }
  | _ => none }
def breaksRow : OpenClaim := { program := "ytdhofmnidlhjpaa", sum := "aa9884eafd727f373183d3742b14ed20d89edf1212a4fb2a29548a7a8cf7bcee", func := "deadline/deadlinelaw.Breaks", spec := "breaks", apart := false }
def BreaksSaid : Prop := breaksRow.holds Try.pinned (OpenSpec.ofChange breaksSpec)

/-- ITS FALSE NEIGHBOUR: 'it returns false'. Refute it at one input. -/
def breaksWrong : ChangeSpec := { name := "breaks", fn := fun _ => fun
  | [d] => { results := [.lit (.bool false)], args := [d] }
  | _ => none }
def BreaksWrongFalsely : Prop := breaksRow.holds Try.pinned (OpenSpec.ofChange breaksWrong)

/-- 'deadlinelaw.Kept': WHATEVER THE INPUT: true; the input reads as it did. -/
def keptSpec : ChangeSpec := { name := "kept", fn := fun _ => fun
  | [d] => { results := [.lit (.bool true)], args := [d] }
  | _ => none }
def keptRow : OpenClaim := { program := "ytdhofmnidlhjpaa", sum := "aa9884eafd727f373183d3742b14ed20d89edf1212a4fb2a29548a7a8cf7bcee", func := "deadline/deadlinelaw.Kept", spec := "kept", apart := false }
def KeptSaid : Prop := keptRow.holds Try.pinned (OpenSpec.ofChange keptSpec)

/-- ITS FALSE NEIGHBOUR: 'it returns false'. Refute it at one input. -/
def keptWrong : ChangeSpec := { name := "kept", fn := fun _ => fun
  | [d] => { results := [.lit (.bool false)], args := [d] }
  | _ => none }
def KeptWrongFalsely : Prop := keptRow.holds Try.pinned (OpenSpec.ofChange keptWrong)

/-- 'deadlinelaw.Shown': WHATEVER THE INPUT: true; the input reads as it did. -/
def shownSpec : ChangeSpec := { name := "shown", fn := fun _ => fun
  | [d] => { results := [.lit (.bool true)], args := [d] }
  | _ => none }
def shownRow : OpenClaim := { program := "ytdhofmnidlhjpaa", sum := "aa9884eafd727f373183d3742b14ed20d89edf1212a4fb2a29548a7a8cf7bcee", func := "deadline/deadlinelaw.Shown", spec := "shown", apart := false }
def ShownSaid : Prop := shownRow.holds Try.pinned (OpenSpec.ofChange shownSpec)

/-- ITS FALSE NEIGHBOUR: 'it returns false'. Refute it at one input. -/
def shownWrong : ChangeSpec := { name := "shown", fn := fun _ => fun
  | [d] => { results := [.lit (.bool false)], args := [d] }
  | _ => none }
def ShownWrongFalsely : Prop := shownRow.holds Try.pinned (OpenSpec.ofChange shownWrong)

/- THE SECOND FORM. 'bulk': how many values and letters a reading holds, each counted each time it is reached (what is shared counts as often as it is met; a slice's spare places count too). A statement '..UptoSaid' is the law's where the arguments, and the package variables that the reading takes, are together of bulk at most 1048576: NARROWER than '..Said'. Prove '..Said' where nothing that the law and all that it calls make is longer than what came in: it says more and counts as full. Else prove '..UptoSaid'. A law counts once. -/
mutual
def uptoBulk {H : Type} : DataW H → Nat
  | .lit (.string bytes) => bytes.length + 1
  | .lit _ => 1
  | .nil => 1
  | .ptr d => uptoBulk d + 1
  | .slice elems spare => uptoBulkAll elems + uptoBulkAll spare + 1
  | .agg parts => uptoBulkAll parts + 1
  | .iface _ d => uptoBulk d + 1
  | .map entries => uptoBulkEntries entries + 1
  | .held _ => 1
def uptoBulkAll {H : Type} : List (DataW H) → Nat
  | [] => 0
  | d :: r => uptoBulk d + uptoBulkAll r
def uptoBulkEntries {H : Type} : List (Lit × DataW H) → Nat
  | [] => 0
  | x :: r => uptoBulkEntry x + uptoBulkEntries r
def uptoBulkEntry {H : Type} : Lit × DataW H → Nat
  | (.string bytes, d) => bytes.length + uptoBulk d + 1
  | (_, d) => uptoBulk d + 1
 end
def uptoSmall : (H : Type) → List (DataW H) → Bool := fun _ ds => decide (uptoBulkAll ds ≤ 1048576)
def OpenSpec.upto (s : _root_.Go.ChangeSpec) : _root_.Go.OpenSpec := { _root_.Go.OpenSpec.ofChange s with cond := some uptoSmall }

/-- 'deadlinelaw.Checks', WHERE WHAT IT READS IS OF BULK AT MOST 1048576: true; the input reads as it did. -/
def checksUptoRow : OpenClaim := { program := "ytdhofmnidlhjpaa", sum := "aa9884eafd727f373183d3742b14ed20d89edf1212a4fb2a29548a7a8cf7bcee", func := "deadline/deadlinelaw.Checks", spec := "checks", apart := false, narrowed := true }
def ChecksUptoSaid : Prop := checksUptoRow.holds Try.pinned (OpenSpec.upto checksSpec)

/-- 'deadlinelaw.Demands', WHERE WHAT IT READS IS OF BULK AT MOST 1048576: true; the input reads as it did. -/
def demandsUptoRow : OpenClaim := { program := "ytdhofmnidlhjpaa", sum := "aa9884eafd727f373183d3742b14ed20d89edf1212a4fb2a29548a7a8cf7bcee", func := "deadline/deadlinelaw.Demands", spec := "demands", apart := false, narrowed := true }
def DemandsUptoSaid : Prop := demandsUptoRow.holds Try.pinned (OpenSpec.upto demandsSpec)

/-- 'deadlinelaw.Busies', WHERE WHAT IT READS IS OF BULK AT MOST 1048576: true; the input reads as it did. -/
def busiesUptoRow : OpenClaim := { program := "ytdhofmnidlhjpaa", sum := "aa9884eafd727f373183d3742b14ed20d89edf1212a4fb2a29548a7a8cf7bcee", func := "deadline/deadlinelaw.Busies", spec := "busies", apart := false, narrowed := true }
def BusiesUptoSaid : Prop := busiesUptoRow.holds Try.pinned (OpenSpec.upto busiesSpec)

/-- 'deadlinelaw.Tests', WHERE WHAT IT READS IS OF BULK AT MOST 1048576: true; the input reads as it did. -/
def testsUptoRow : OpenClaim := { program := "ytdhofmnidlhjpaa", sum := "aa9884eafd727f373183d3742b14ed20d89edf1212a4fb2a29548a7a8cf7bcee", func := "deadline/deadlinelaw.Tests", spec := "tests", apart := false, narrowed := true }
def TestsUptoSaid : Prop := testsUptoRow.holds Try.pinned (OpenSpec.upto testsSpec)

/-- 'deadlinelaw.Levels', WHERE WHAT IT READS IS OF BULK AT MOST 1048576: true; the input reads as it did. -/
def levelsUptoRow : OpenClaim := { program := "ytdhofmnidlhjpaa", sum := "aa9884eafd727f373183d3742b14ed20d89edf1212a4fb2a29548a7a8cf7bcee", func := "deadline/deadlinelaw.Levels", spec := "levels", apart := false, narrowed := true }
def LevelsUptoSaid : Prop := levelsUptoRow.holds Try.pinned (OpenSpec.upto levelsSpec)

/-- 'deadlinelaw.Refutes', WHERE WHAT IT READS IS OF BULK AT MOST 1048576: true; the input reads as it did. -/
def refutesUptoRow : OpenClaim := { program := "ytdhofmnidlhjpaa", sum := "aa9884eafd727f373183d3742b14ed20d89edf1212a4fb2a29548a7a8cf7bcee", func := "deadline/deadlinelaw.Refutes", spec := "refutes", apart := false, narrowed := true }
def RefutesUptoSaid : Prop := refutesUptoRow.holds Try.pinned (OpenSpec.upto refutesSpec)

/-- 'deadlinelaw.Rooms', WHERE WHAT IT READS IS OF BULK AT MOST 1048576: true; the input reads as it did. -/
def roomsUptoRow : OpenClaim := { program := "ytdhofmnidlhjpaa", sum := "aa9884eafd727f373183d3742b14ed20d89edf1212a4fb2a29548a7a8cf7bcee", func := "deadline/deadlinelaw.Rooms", spec := "rooms", apart := false, narrowed := true }
def RoomsUptoSaid : Prop := roomsUptoRow.holds Try.pinned (OpenSpec.upto roomsSpec)

/-- 'deadlinelaw.Safe', WHERE WHAT IT READS IS OF BULK AT MOST 1048576: true; the input reads as it did. -/
def safeUptoRow : OpenClaim := { program := "ytdhofmnidlhjpaa", sum := "aa9884eafd727f373183d3742b14ed20d89edf1212a4fb2a29548a7a8cf7bcee", func := "deadline/deadlinelaw.Safe", spec := "safe", apart := false, narrowed := true }
def SafeUptoSaid : Prop := safeUptoRow.holds Try.pinned (OpenSpec.upto safeSpec)

/-- 'deadlinelaw.Runs', WHERE WHAT IT READS IS OF BULK AT MOST 1048576: true; the input reads as it did. -/
def runsUptoRow : OpenClaim := { program := "ytdhofmnidlhjpaa", sum := "aa9884eafd727f373183d3742b14ed20d89edf1212a4fb2a29548a7a8cf7bcee", func := "deadline/deadlinelaw.Runs", spec := "runs", apart := false, narrowed := true }
def RunsUptoSaid : Prop := runsUptoRow.holds Try.pinned (OpenSpec.upto runsSpec)

/-- 'deadlinelaw.Breaks', WHERE WHAT IT READS IS OF BULK AT MOST 1048576: true; the input reads as it did. -/
def breaksUptoRow : OpenClaim := { program := "ytdhofmnidlhjpaa", sum := "aa9884eafd727f373183d3742b14ed20d89edf1212a4fb2a29548a7a8cf7bcee", func := "deadline/deadlinelaw.Breaks", spec := "breaks", apart := false, narrowed := true }
def BreaksUptoSaid : Prop := breaksUptoRow.holds Try.pinned (OpenSpec.upto breaksSpec)

/-- 'deadlinelaw.Kept', WHERE WHAT IT READS IS OF BULK AT MOST 1048576: true; the input reads as it did. -/
def keptUptoRow : OpenClaim := { program := "ytdhofmnidlhjpaa", sum := "aa9884eafd727f373183d3742b14ed20d89edf1212a4fb2a29548a7a8cf7bcee", func := "deadline/deadlinelaw.Kept", spec := "kept", apart := false, narrowed := true }
def KeptUptoSaid : Prop := keptUptoRow.holds Try.pinned (OpenSpec.upto keptSpec)

/-- 'deadlinelaw.Shown', WHERE WHAT IT READS IS OF BULK AT MOST 1048576: true; the input reads as it did. -/
def shownUptoRow : OpenClaim := { program := "ytdhofmnidlhjpaa", sum := "aa9884eafd727f373183d3742b14ed20d89edf1212a4fb2a29548a7a8cf7bcee", func := "deadline/deadlinelaw.Shown", spec := "shown", apart := false, narrowed := true }
def ShownUptoSaid : Prop := shownUptoRow.holds Try.pinned (OpenSpec.upto shownSpec)

end Rows
end Go.Proofs.Ytdhofmnidlhjpaa
