/-
  No cell of these rows narrows 'for every input' (looked for: loops, veiled, ifaces, maps, wideKeys, modest, calm, conditions, laid).
  DERIVED. THE GIVEN ROWS OF THIS SEAT. 7 by the template 'for every input the law returns true; each argument reads behind the call as it read before'; 0 by the template 'total and deterministic' (their statements: YtifppmpknnpmpaaTotals.lean).
  GIVEN WITH THE SEED: the statements are not yours to turn. If you find one false, say at which input.
  Laid BY PROGRAM, IN A SANDBOX (cutbox-rows.mjs): the forced cells as the released guide's own fill.sh prints them over the translation 53b6f802c1703d67… (all of the seat's roots in one cut). By AI agents, Wed Nov 11 2026. No macro, syntax, notation, axiom, sorry.
-/
import Derived.Test.YtifppmpknnpmpaaChecked
import GoSem.Claim
import GoSem.ClaimJoined
import GoSem.ClaimMapViews
import Derived.JoinedTies
import Derived.KernelRfl
namespace Go.Proofs.Ytifppmpknnpmpaa
/- THE CELL 'sum', in the pinned program and in every row, IS THE sha256 OF THE DUMP (.gsa) THAT YtifppmpknnpmpaaProg.lean LOADS. Nothing in Lean hashes anything: it is a label: what it is worth is what the hold of that sum in a sandbox is worth. -/
noncomputable def Try.pinned : Pinned := { name := "ytifppmpknnpmpaa", sum := "53b6f802c1703d670bb15c9f0347b4e973800abc9d60bc303551d4ede99658de", checked := Try.checked }
namespace Rows
def none {H : Type} : Left H := { results := [], args := [] }

/-- 'waystationlaw07.LockCalls': WHATEVER THE INPUT: true; the input reads as it did. -/
def lockCallsSpec : ChangeSpec := { name := "lockCalls", fn := fun _ => fun
  | [d1, d2] => { results := [.lit (.bool true)], args := [d1, d2] }
  | _ => none }
def lockCallsRow : OpenClaim := { program := "ytifppmpknnpmpaa", sum := "53b6f802c1703d670bb15c9f0347b4e973800abc9d60bc303551d4ede99658de", func := "waystation/waystationlaw07.LockCalls", spec := "lockCalls", unfollowed := true, recurses := true, apart := false }
def LockCallsSaid : Prop := lockCallsRow.holds Try.pinned (OpenSpec.ofChange lockCallsSpec)

/-- ITS FALSE NEIGHBOUR: 'it returns false'. Refute it at one input. -/
def lockCallsWrong : ChangeSpec := { name := "lockCalls", fn := fun _ => fun
  | [d1, d2] => { results := [.lit (.bool false)], args := [d1, d2] }
  | _ => none }
def LockCallsWrongFalsely : Prop := lockCallsRow.holds Try.pinned (OpenSpec.ofChange lockCallsWrong)

/-- 'waystationlaw07.LockRow': WHATEVER THE INPUT: true; the input reads as it did. -/
def lockRowSpec : ChangeSpec := { name := "lockRow", fn := fun _ => fun
  | [d] => { results := [.lit (.bool true)], args := [d] }
  | _ => none }
def lockRowRow : OpenClaim := { program := "ytifppmpknnpmpaa", sum := "53b6f802c1703d670bb15c9f0347b4e973800abc9d60bc303551d4ede99658de", func := "waystation/waystationlaw07.LockRow", spec := "lockRow", unfollowed := true, recurses := true, apart := false }
def LockRowSaid : Prop := lockRowRow.holds Try.pinned (OpenSpec.ofChange lockRowSpec)

/-- ITS FALSE NEIGHBOUR: 'it returns false'. Refute it at one input. -/
def lockRowWrong : ChangeSpec := { name := "lockRow", fn := fun _ => fun
  | [d] => { results := [.lit (.bool false)], args := [d] }
  | _ => none }
def LockRowWrongFalsely : Prop := lockRowRow.holds Try.pinned (OpenSpec.ofChange lockRowWrong)

/-- 'waystationlaw07.LockOthers': WHATEVER THE INPUT: true; the input reads as it did. -/
def lockOthersSpec : ChangeSpec := { name := "lockOthers", fn := fun _ => fun
  | [d1, d2] => { results := [.lit (.bool true)], args := [d1, d2] }
  | _ => none }
def lockOthersRow : OpenClaim := { program := "ytifppmpknnpmpaa", sum := "53b6f802c1703d670bb15c9f0347b4e973800abc9d60bc303551d4ede99658de", func := "waystation/waystationlaw07.LockOthers", spec := "lockOthers", unfollowed := true, recurses := true, apart := false }
def LockOthersSaid : Prop := lockOthersRow.holds Try.pinned (OpenSpec.ofChange lockOthersSpec)

/-- ITS FALSE NEIGHBOUR: 'it returns false'. Refute it at one input. -/
def lockOthersWrong : ChangeSpec := { name := "lockOthers", fn := fun _ => fun
  | [d1, d2] => { results := [.lit (.bool false)], args := [d1, d2] }
  | _ => none }
def LockOthersWrongFalsely : Prop := lockOthersRow.holds Try.pinned (OpenSpec.ofChange lockOthersWrong)

/-- 'waystationlaw07.LockAgain': WHATEVER THE INPUT: true; the input reads as it did. -/
def lockAgainSpec : ChangeSpec := { name := "lockAgain", fn := fun _ => fun
  | [d1, d2] => { results := [.lit (.bool true)], args := [d1, d2] }
  | _ => none }
def lockAgainRow : OpenClaim := { program := "ytifppmpknnpmpaa", sum := "53b6f802c1703d670bb15c9f0347b4e973800abc9d60bc303551d4ede99658de", func := "waystation/waystationlaw07.LockAgain", spec := "lockAgain", unfollowed := true, recurses := true, apart := false }
def LockAgainSaid : Prop := lockAgainRow.holds Try.pinned (OpenSpec.ofChange lockAgainSpec)

/-- ITS FALSE NEIGHBOUR: 'it returns false'. Refute it at one input. -/
def lockAgainWrong : ChangeSpec := { name := "lockAgain", fn := fun _ => fun
  | [d1, d2] => { results := [.lit (.bool false)], args := [d1, d2] }
  | _ => none }
def LockAgainWrongFalsely : Prop := lockAgainRow.holds Try.pinned (OpenSpec.ofChange lockAgainWrong)

/-- 'waystationlaw07.LockReads': WHATEVER THE INPUT: true; the input reads as it did. -/
def lockReadsSpec : ChangeSpec := { name := "lockReads", fn := fun _ => fun
  | [d1, d2] => { results := [.lit (.bool true)], args := [d1, d2] }
  | _ => none }
def lockReadsRow : OpenClaim := { program := "ytifppmpknnpmpaa", sum := "53b6f802c1703d670bb15c9f0347b4e973800abc9d60bc303551d4ede99658de", func := "waystation/waystationlaw07.LockReads", spec := "lockReads", unfollowed := true, recurses := true, apart := false }
def LockReadsSaid : Prop := lockReadsRow.holds Try.pinned (OpenSpec.ofChange lockReadsSpec)

/-- ITS FALSE NEIGHBOUR: 'it returns false'. Refute it at one input. -/
def lockReadsWrong : ChangeSpec := { name := "lockReads", fn := fun _ => fun
  | [d1, d2] => { results := [.lit (.bool false)], args := [d1, d2] }
  | _ => none }
def LockReadsWrongFalsely : Prop := lockReadsRow.holds Try.pinned (OpenSpec.ofChange lockReadsWrong)

/-- 'waystationlaw07.LockFrees': WHATEVER THE INPUT: true; the input reads as it did. -/
def lockFreesSpec : ChangeSpec := { name := "lockFrees", fn := fun _ => fun
  | [d1, d2] => { results := [.lit (.bool true)], args := [d1, d2] }
  | _ => none }
def lockFreesRow : OpenClaim := { program := "ytifppmpknnpmpaa", sum := "53b6f802c1703d670bb15c9f0347b4e973800abc9d60bc303551d4ede99658de", func := "waystation/waystationlaw07.LockFrees", spec := "lockFrees", unfollowed := true, recurses := true, apart := false }
def LockFreesSaid : Prop := lockFreesRow.holds Try.pinned (OpenSpec.ofChange lockFreesSpec)

/-- ITS FALSE NEIGHBOUR: 'it returns false'. Refute it at one input. -/
def lockFreesWrong : ChangeSpec := { name := "lockFrees", fn := fun _ => fun
  | [d1, d2] => { results := [.lit (.bool false)], args := [d1, d2] }
  | _ => none }
def LockFreesWrongFalsely : Prop := lockFreesRow.holds Try.pinned (OpenSpec.ofChange lockFreesWrong)

/-- 'waystationlaw07.LockWrites': WHATEVER THE INPUT: true; the input reads as it did. -/
def lockWritesSpec : ChangeSpec := { name := "lockWrites", fn := fun _ => fun
  | [d1, d2] => { results := [.lit (.bool true)], args := [d1, d2] }
  | _ => none }
def lockWritesRow : OpenClaim := { program := "ytifppmpknnpmpaa", sum := "53b6f802c1703d670bb15c9f0347b4e973800abc9d60bc303551d4ede99658de", func := "waystation/waystationlaw07.LockWrites", spec := "lockWrites", unfollowed := true, recurses := true, apart := false }
def LockWritesSaid : Prop := lockWritesRow.holds Try.pinned (OpenSpec.ofChange lockWritesSpec)

/-- ITS FALSE NEIGHBOUR: 'it returns false'. Refute it at one input. -/
def lockWritesWrong : ChangeSpec := { name := "lockWrites", fn := fun _ => fun
  | [d1, d2] => { results := [.lit (.bool false)], args := [d1, d2] }
  | _ => none }
def LockWritesWrongFalsely : Prop := lockWritesRow.holds Try.pinned (OpenSpec.ofChange lockWritesWrong)

/- THE SECOND FORM. 'bulk': how many values and letters a reading holds, each counted each time it is reached (what is shared counts as often as it is met; a slice's spare places count too). A statement '..UptoSaid' is the law's where the arguments, and the package variables that the reading takes, are together of bulk at most 1048576: NARROWER than '..Said'. Prove '..Said' where nothing that the law and all that it calls make is longer than what came in: it says more and counts as full. Else prove '..UptoSaid'. A law counts once. -/
mutual
def uptoBulk {H : Type} : DataW H → Nat
  | .lit (.string bytes) => bytes.length + 1
  | .lit _ => 1
  | .nil => 1
  | .ptr d => uptoBulk d + 1
  | .slice elems spare => uptoBulkAll elems + uptoBulkAll spare + 1
  | .agg parts => uptoBulkAll parts + 1
  | .iface _ d => uptoBulk d + 1
  | .map entries => uptoBulkEntries entries + 1
  | .held _ => 1
def uptoBulkAll {H : Type} : List (DataW H) → Nat
  | [] => 0
  | d :: r => uptoBulk d + uptoBulkAll r
def uptoBulkEntries {H : Type} : List (Lit × DataW H) → Nat
  | [] => 0
  | x :: r => uptoBulkEntry x + uptoBulkEntries r
def uptoBulkEntry {H : Type} : Lit × DataW H → Nat
  | (.string bytes, d) => bytes.length + uptoBulk d + 1
  | (_, d) => uptoBulk d + 1
 end
def uptoSmall : (H : Type) → List (DataW H) → Bool := fun _ ds => decide (uptoBulkAll ds ≤ 1048576)
def OpenSpec.upto (s : _root_.Go.ChangeSpec) : _root_.Go.OpenSpec := { _root_.Go.OpenSpec.ofChange s with cond := some uptoSmall }

/-- 'waystationlaw07.LockCalls', WHERE WHAT IT READS IS OF BULK AT MOST 1048576: true; the input reads as it did. -/
def lockCallsUptoRow : OpenClaim := { program := "ytifppmpknnpmpaa", sum := "53b6f802c1703d670bb15c9f0347b4e973800abc9d60bc303551d4ede99658de", func := "waystation/waystationlaw07.LockCalls", spec := "lockCalls", unfollowed := true, recurses := true, apart := false, narrowed := true }
def LockCallsUptoSaid : Prop := lockCallsUptoRow.holds Try.pinned (OpenSpec.upto lockCallsSpec)

/-- 'waystationlaw07.LockRow', WHERE WHAT IT READS IS OF BULK AT MOST 1048576: true; the input reads as it did. -/
def lockRowUptoRow : OpenClaim := { program := "ytifppmpknnpmpaa", sum := "53b6f802c1703d670bb15c9f0347b4e973800abc9d60bc303551d4ede99658de", func := "waystation/waystationlaw07.LockRow", spec := "lockRow", unfollowed := true, recurses := true, apart := false, narrowed := true }
def LockRowUptoSaid : Prop := lockRowUptoRow.holds Try.pinned (OpenSpec.upto lockRowSpec)

/-- 'waystationlaw07.LockOthers', WHERE WHAT IT READS IS OF BULK AT MOST 1048576: true; the input reads as it did. -/
def lockOthersUptoRow : OpenClaim := { program := "ytifppmpknnpmpaa", sum := "53b6f802c1703d670bb15c9f0347b4e973800abc9d60bc303551d4ede99658de", func := "waystation/waystationlaw07.LockOthers", spec := "lockOthers", unfollowed := true, recurses := true, apart := false, narrowed := true }
def LockOthersUptoSaid : Prop := lockOthersUptoRow.holds Try.pinned (OpenSpec.upto lockOthersSpec)

/-- 'waystationlaw07.LockAgain', WHERE WHAT IT READS IS OF BULK AT MOST 1048576: true; the input reads as it did. -/
def lockAgainUptoRow : OpenClaim := { program := "ytifppmpknnpmpaa", sum := "53b6f802c1703d670bb15c9f0347b4e973800abc9d60bc303551d4ede99658de", func := "waystation/waystationlaw07.LockAgain", spec := "lockAgain", unfollowed := true, recurses := true, apart := false, narrowed := true }
def LockAgainUptoSaid : Prop := lockAgainUptoRow.holds Try.pinned (OpenSpec.upto lockAgainSpec)

/-- 'waystationlaw07.LockReads', WHERE WHAT IT READS IS OF BULK AT MOST 1048576: true; the input reads as it did. -/
def lockReadsUptoRow : OpenClaim := { program := "ytifppmpknnpmpaa", sum := "53b6f802c1703d670bb15c9f0347b4e973800abc9d60bc303551d4ede99658de", func := "waystation/waystationlaw07.LockReads", spec := "lockReads", unfollowed := true, recurses := true, apart := false, narrowed := true }
def LockReadsUptoSaid : Prop := lockReadsUptoRow.holds Try.pinned (OpenSpec.upto lockReadsSpec)

/-- 'waystationlaw07.LockFrees', WHERE WHAT IT READS IS OF BULK AT MOST 1048576: true; the input reads as it did. -/
def lockFreesUptoRow : OpenClaim := { program := "ytifppmpknnpmpaa", sum := "53b6f802c1703d670bb15c9f0347b4e973800abc9d60bc303551d4ede99658de", func := "waystation/waystationlaw07.LockFrees", spec := "lockFrees", unfollowed := true, recurses := true, apart := false, narrowed := true }
def LockFreesUptoSaid : Prop := lockFreesUptoRow.holds Try.pinned (OpenSpec.upto lockFreesSpec)

/-- 'waystationlaw07.LockWrites', WHERE WHAT IT READS IS OF BULK AT MOST 1048576: true; the input reads as it did. -/
def lockWritesUptoRow : OpenClaim := { program := "ytifppmpknnpmpaa", sum := "53b6f802c1703d670bb15c9f0347b4e973800abc9d60bc303551d4ede99658de", func := "waystation/waystationlaw07.LockWrites", spec := "lockWrites", unfollowed := true, recurses := true, apart := false, narrowed := true }
def LockWritesUptoSaid : Prop := lockWritesUptoRow.holds Try.pinned (OpenSpec.upto lockWritesSpec)

end Rows
end Go.Proofs.Ytifppmpknnpmpaa
