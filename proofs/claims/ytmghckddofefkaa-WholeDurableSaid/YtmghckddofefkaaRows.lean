/-
  No cell of these rows narrows 'for every input' (looked for: loops, veiled, ifaces, maps, wideKeys, modest, calm, conditions, laid).
  DERIVED. THE GIVEN ROWS OF THIS SEAT. 7 by the template 'for every input the law returns true; each argument reads behind the call as it read before'; 0 by the template 'total and deterministic' (their statements: YtmghckddofefkaaTotals.lean).
  GIVEN WITH THE SEED: the statements are not yours to turn. If you find one false, say at which input.
  Laid BY PROGRAM, IN A SANDBOX (cutbox-rows.mjs): the forced cells as the released guide's own fill.sh prints them over the translation ec3fd2f074f584b3… (all of the seat's roots in one cut). By AI agents, Wed Nov 11 2026. No macro, syntax, notation, axiom, sorry.
-/
import Derived.Test.YtmghckddofefkaaChecked
import GoSem.Claim
import GoSem.ClaimJoined
import GoSem.ClaimMapViews
import Derived.JoinedTies
import Derived.KernelRfl
namespace Go.Proofs.Ytmghckddofefkaa
/- THE CELL 'sum', in the pinned program and in every row, IS THE sha256 OF THE DUMP (.gsa) THAT YtmghckddofefkaaProg.lean LOADS. Nothing in Lean hashes anything: it is a label: what it is worth is what the hold of that sum in a sandbox is worth. -/
noncomputable def Try.pinned : Pinned := { name := "ytmghckddofefkaa", sum := "ec3fd2f074f584b358a5c0e0f61dad08592189d4d9dcc32de5f9b5ff784cbd5c", checked := Try.checked }
namespace Rows
def none {H : Type} : Left H := { results := [], args := [] }

/-- 'waystationlaw12.HandHears': WHATEVER THE INPUT: true; the input reads as it did. -/
def handHearsSpec : ChangeSpec := { name := "handHears", fn := fun _ => fun
  | [d1, d2] => { results := [.lit (.bool true)], args := [d1, d2] }
  | _ => none }
def handHearsRow : OpenClaim := { program := "ytmghckddofefkaa", sum := "ec3fd2f074f584b358a5c0e0f61dad08592189d4d9dcc32de5f9b5ff784cbd5c", func := "waystation/waystationlaw12.HandHears", spec := "handHears", apart := false }
def HandHearsSaid : Prop := handHearsRow.holds Try.pinned (OpenSpec.ofChange handHearsSpec)

/-- ITS FALSE NEIGHBOUR: 'it returns false'. Refute it at one input. -/
def handHearsWrong : ChangeSpec := { name := "handHears", fn := fun _ => fun
  | [d1, d2] => { results := [.lit (.bool false)], args := [d1, d2] }
  | _ => none }
def HandHearsWrongFalsely : Prop := handHearsRow.holds Try.pinned (OpenSpec.ofChange handHearsWrong)

/-- 'waystationlaw12.HandAsks': WHATEVER THE INPUT: true; the input reads as it did. -/
def handAsksSpec : ChangeSpec := { name := "handAsks", fn := fun _ => fun
  | [d1, d2] => { results := [.lit (.bool true)], args := [d1, d2] }
  | _ => none }
def handAsksRow : OpenClaim := { program := "ytmghckddofefkaa", sum := "ec3fd2f074f584b358a5c0e0f61dad08592189d4d9dcc32de5f9b5ff784cbd5c", func := "waystation/waystationlaw12.HandAsks", spec := "handAsks", apart := false }
def HandAsksSaid : Prop := handAsksRow.holds Try.pinned (OpenSpec.ofChange handAsksSpec)

/-- ITS FALSE NEIGHBOUR: 'it returns false'. Refute it at one input. -/
def handAsksWrong : ChangeSpec := { name := "handAsks", fn := fun _ => fun
  | [d1, d2] => { results := [.lit (.bool false)], args := [d1, d2] }
  | _ => none }
def HandAsksWrongFalsely : Prop := handAsksRow.holds Try.pinned (OpenSpec.ofChange handAsksWrong)

/-- 'waystationlaw12.HandOne': WHATEVER THE INPUT: true; the input reads as it did. -/
def handOneSpec : ChangeSpec := { name := "handOne", fn := fun _ => fun
  | [d] => { results := [.lit (.bool true)], args := [d] }
  | _ => none }
def handOneRow : OpenClaim := { program := "ytmghckddofefkaa", sum := "ec3fd2f074f584b358a5c0e0f61dad08592189d4d9dcc32de5f9b5ff784cbd5c", func := "waystation/waystationlaw12.HandOne", spec := "handOne", apart := false }
def HandOneSaid : Prop := handOneRow.holds Try.pinned (OpenSpec.ofChange handOneSpec)

/-- ITS FALSE NEIGHBOUR: 'it returns false'. Refute it at one input. -/
def handOneWrong : ChangeSpec := { name := "handOne", fn := fun _ => fun
  | [d] => { results := [.lit (.bool false)], args := [d] }
  | _ => none }
def HandOneWrongFalsely : Prop := handOneRow.holds Try.pinned (OpenSpec.ofChange handOneWrong)

/-- 'waystationlaw12.HandThere': WHATEVER THE INPUT: true; the input reads as it did. -/
def handThereSpec : ChangeSpec := { name := "handThere", fn := fun _ => fun
  | [d] => { results := [.lit (.bool true)], args := [d] }
  | _ => none }
def handThereRow : OpenClaim := { program := "ytmghckddofefkaa", sum := "ec3fd2f074f584b358a5c0e0f61dad08592189d4d9dcc32de5f9b5ff784cbd5c", func := "waystation/waystationlaw12.HandThere", spec := "handThere", apart := false }
def HandThereSaid : Prop := handThereRow.holds Try.pinned (OpenSpec.ofChange handThereSpec)

/-- ITS FALSE NEIGHBOUR: 'it returns false'. Refute it at one input. -/
def handThereWrong : ChangeSpec := { name := "handThere", fn := fun _ => fun
  | [d] => { results := [.lit (.bool false)], args := [d] }
  | _ => none }
def HandThereWrongFalsely : Prop := handThereRow.holds Try.pinned (OpenSpec.ofChange handThereWrong)

/-- 'waystationlaw12.HandErrors': WHATEVER THE INPUT: true; the input reads as it did. -/
def handErrorsSpec : ChangeSpec := { name := "handErrors", fn := fun _ => fun
  | [d1, d2] => { results := [.lit (.bool true)], args := [d1, d2] }
  | _ => none }
def handErrorsRow : OpenClaim := { program := "ytmghckddofefkaa", sum := "ec3fd2f074f584b358a5c0e0f61dad08592189d4d9dcc32de5f9b5ff784cbd5c", func := "waystation/waystationlaw12.HandErrors", spec := "handErrors", apart := false }
def HandErrorsSaid : Prop := handErrorsRow.holds Try.pinned (OpenSpec.ofChange handErrorsSpec)

/-- ITS FALSE NEIGHBOUR: 'it returns false'. Refute it at one input. -/
def handErrorsWrong : ChangeSpec := { name := "handErrors", fn := fun _ => fun
  | [d1, d2] => { results := [.lit (.bool false)], args := [d1, d2] }
  | _ => none }
def HandErrorsWrongFalsely : Prop := handErrorsRow.holds Try.pinned (OpenSpec.ofChange handErrorsWrong)

/-- 'waystationlaw12.HandTwice': WHATEVER THE INPUT: true; the input reads as it did. -/
def handTwiceSpec : ChangeSpec := { name := "handTwice", fn := fun _ => fun
  | [d1, d2] => { results := [.lit (.bool true)], args := [d1, d2] }
  | _ => none }
def handTwiceRow : OpenClaim := { program := "ytmghckddofefkaa", sum := "ec3fd2f074f584b358a5c0e0f61dad08592189d4d9dcc32de5f9b5ff784cbd5c", func := "waystation/waystationlaw12.HandTwice", spec := "handTwice", apart := false }
def HandTwiceSaid : Prop := handTwiceRow.holds Try.pinned (OpenSpec.ofChange handTwiceSpec)

/-- ITS FALSE NEIGHBOUR: 'it returns false'. Refute it at one input. -/
def handTwiceWrong : ChangeSpec := { name := "handTwice", fn := fun _ => fun
  | [d1, d2] => { results := [.lit (.bool false)], args := [d1, d2] }
  | _ => none }
def HandTwiceWrongFalsely : Prop := handTwiceRow.holds Try.pinned (OpenSpec.ofChange handTwiceWrong)

/-- 'waystationtop.WholeDurable': WHATEVER THE INPUT: true; the input reads as it did. -/
def wholeDurableSpec : ChangeSpec := { name := "wholeDurable", fn := fun _ => fun
  | [d1, d2] => { results := [.lit (.bool true)], args := [d1, d2] }
  | _ => none }
def wholeDurableRow : OpenClaim := { program := "ytmghckddofefkaa", sum := "ec3fd2f074f584b358a5c0e0f61dad08592189d4d9dcc32de5f9b5ff784cbd5c", func := "waystation/waystationtop.WholeDurable", spec := "wholeDurable", unfollowed := true, recurses := true, apart := false }
def WholeDurableSaid : Prop := wholeDurableRow.holds Try.pinned (OpenSpec.ofChange wholeDurableSpec)

/-- ITS FALSE NEIGHBOUR: 'it returns false'. Refute it at one input. -/
def wholeDurableWrong : ChangeSpec := { name := "wholeDurable", fn := fun _ => fun
  | [d1, d2] => { results := [.lit (.bool false)], args := [d1, d2] }
  | _ => none }
def WholeDurableWrongFalsely : Prop := wholeDurableRow.holds Try.pinned (OpenSpec.ofChange wholeDurableWrong)

/- THE SECOND FORM. 'bulk': how many values and letters a reading holds, each counted each time it is reached (what is shared counts as often as it is met; a slice's spare places count too). A statement '..UptoSaid' is the law's where the arguments, and the package variables that the reading takes, are together of bulk at most 1048576: NARROWER than '..Said'. Prove '..Said' where nothing that the law and all that it calls make is longer than what came in: it says more and counts as full. Else prove '..UptoSaid'. A law counts once. -/
mutual
def uptoBulk {H : Type} : DataW H → Nat
  | .lit (.string bytes) => bytes.length + 1
  | .lit _ => 1
  | .nil => 1
  | .ptr d => uptoBulk d + 1
  | .slice elems spare => uptoBulkAll elems + uptoBulkAll spare + 1
  | .agg parts => uptoBulkAll parts + 1
  | .iface _ d => uptoBulk d + 1
  | .map entries => uptoBulkEntries entries + 1
  | .held _ => 1
def uptoBulkAll {H : Type} : List (DataW H) → Nat
  | [] => 0
  | d :: r => uptoBulk d + uptoBulkAll r
def uptoBulkEntries {H : Type} : List (Lit × DataW H) → Nat
  | [] => 0
  | x :: r => uptoBulkEntry x + uptoBulkEntries r
def uptoBulkEntry {H : Type} : Lit × DataW H → Nat
  | (.string bytes, d) => bytes.length + uptoBulk d + 1
  | (_, d) => uptoBulk d + 1
 end
def uptoSmall : (H : Type) → List (DataW H) → Bool := fun _ ds => decide (uptoBulkAll ds ≤ 1048576)
def OpenSpec.upto (s : _root_.Go.ChangeSpec) : _root_.Go.OpenSpec := { _root_.Go.OpenSpec.ofChange s with cond := some uptoSmall }

/-- 'waystationlaw12.HandHears', WHERE WHAT IT READS IS OF BULK AT MOST 1048576: true; the input reads as it did. -/
def handHearsUptoRow : OpenClaim := { program := "ytmghckddofefkaa", sum := "ec3fd2f074f584b358a5c0e0f61dad08592189d4d9dcc32de5f9b5ff784cbd5c", func := "waystation/waystationlaw12.HandHears", spec := "handHears", apart := false, narrowed := true }
def HandHearsUptoSaid : Prop := handHearsUptoRow.holds Try.pinned (OpenSpec.upto handHearsSpec)

/-- 'waystationlaw12.HandAsks', WHERE WHAT IT READS IS OF BULK AT MOST 1048576: true; the input reads as it did. -/
def handAsksUptoRow : OpenClaim := { program := "ytmghckddofefkaa", sum := "ec3fd2f074f584b358a5c0e0f61dad08592189d4d9dcc32de5f9b5ff784cbd5c", func := "waystation/waystationlaw12.HandAsks", spec := "handAsks", apart := false, narrowed := true }
def HandAsksUptoSaid : Prop := handAsksUptoRow.holds Try.pinned (OpenSpec.upto handAsksSpec)

/-- 'waystationlaw12.HandOne', WHERE WHAT IT READS IS OF BULK AT MOST 1048576: true; the input reads as it did. -/
def handOneUptoRow : OpenClaim := { program := "ytmghckddofefkaa", sum := "ec3fd2f074f584b358a5c0e0f61dad08592189d4d9dcc32de5f9b5ff784cbd5c", func := "waystation/waystationlaw12.HandOne", spec := "handOne", apart := false, narrowed := true }
def HandOneUptoSaid : Prop := handOneUptoRow.holds Try.pinned (OpenSpec.upto handOneSpec)

/-- 'waystationlaw12.HandThere', WHERE WHAT IT READS IS OF BULK AT MOST 1048576: true; the input reads as it did. -/
def handThereUptoRow : OpenClaim := { program := "ytmghckddofefkaa", sum := "ec3fd2f074f584b358a5c0e0f61dad08592189d4d9dcc32de5f9b5ff784cbd5c", func := "waystation/waystationlaw12.HandThere", spec := "handThere", apart := false, narrowed := true }
def HandThereUptoSaid : Prop := handThereUptoRow.holds Try.pinned (OpenSpec.upto handThereSpec)

/-- 'waystationlaw12.HandErrors', WHERE WHAT IT READS IS OF BULK AT MOST 1048576: true; the input reads as it did. -/
def handErrorsUptoRow : OpenClaim := { program := "ytmghckddofefkaa", sum := "ec3fd2f074f584b358a5c0e0f61dad08592189d4d9dcc32de5f9b5ff784cbd5c", func := "waystation/waystationlaw12.HandErrors", spec := "handErrors", apart := false, narrowed := true }
def HandErrorsUptoSaid : Prop := handErrorsUptoRow.holds Try.pinned (OpenSpec.upto handErrorsSpec)

/-- 'waystationlaw12.HandTwice', WHERE WHAT IT READS IS OF BULK AT MOST 1048576: true; the input reads as it did. -/
def handTwiceUptoRow : OpenClaim := { program := "ytmghckddofefkaa", sum := "ec3fd2f074f584b358a5c0e0f61dad08592189d4d9dcc32de5f9b5ff784cbd5c", func := "waystation/waystationlaw12.HandTwice", spec := "handTwice", apart := false, narrowed := true }
def HandTwiceUptoSaid : Prop := handTwiceUptoRow.holds Try.pinned (OpenSpec.upto handTwiceSpec)

/-- 'waystationtop.WholeDurable', WHERE WHAT IT READS IS OF BULK AT MOST 1048576: true; the input reads as it did. -/
def wholeDurableUptoRow : OpenClaim := { program := "ytmghckddofefkaa", sum := "ec3fd2f074f584b358a5c0e0f61dad08592189d4d9dcc32de5f9b5ff784cbd5c", func := "waystation/waystationtop.WholeDurable", spec := "wholeDurable", unfollowed := true, recurses := true, apart := false, narrowed := true }
def WholeDurableUptoSaid : Prop := wholeDurableUptoRow.holds Try.pinned (OpenSpec.upto wholeDurableSpec)

end Rows
end Go.Proofs.Ytmghckddofefkaa
