/-
  No cell of these rows narrows 'for every input' (looked for: loops, veiled, ifaces, maps, wideKeys, modest, calm, conditions, laid).
  DERIVED. THE GIVEN ROWS OF THIS SEAT. 6 by the template 'for every input the law returns true; each argument reads behind the call as it read before'; 0 by the template 'total and deterministic' (their statements: YtdekijaognfjcaaTotals.lean).
  GIVEN WITH THE SEED: the statements are not yours to turn. If you find one false, say at which input.
  Laid BY PROGRAM, IN A SANDBOX (cutbox-rows.mjs): the forced cells as the released guide's own fill.sh prints them over the translation 7d285d73b36b49a5… (all of the seat's roots in one cut). By AI agents, Wed Nov 11 2026. No macro, syntax, notation, axiom, sorry.
-/
import Derived.Test.YtdekijaognfjcaaChecked
import GoSem.Claim
import GoSem.ClaimJoined
import GoSem.ClaimMapViews
import Derived.JoinedTies
import Derived.KernelRfl
namespace Go.Proofs.Ytdekijaognfjcaa
/- THE CELL 'sum', in the pinned program and in every row, IS THE sha256 OF THE DUMP (.gsa) THAT YtdekijaognfjcaaProg.lean LOADS. Nothing in Lean hashes anything: it is a label: what it is worth is what the hold of that sum in a sandbox is worth. -/
noncomputable def Try.pinned : Pinned := { name := "ytdekijaognfjcaa", sum := "7d285d73b36b49a5b0a1d8ab4c20af0f87b19dc30fb43e7ee357896c174b1cc9", checked := Try.checked }
namespace Rows
def none {H : Type} : Left H := { results := [], args := [] }

/-- 'waystationlaw08.LedgerCalls': WHATEVER THE INPUT: true; the input reads as it did. -/
def ledgerCallsSpec : ChangeSpec := { name := "ledgerCalls", fn := fun _ => fun
  | [d1, d2, d3] => { results := [.lit (.bool true)], args := [d1, d2, d3] }
  | _ => none }
def ledgerCallsRow : OpenClaim := { program := "ytdekijaognfjcaa", sum := "7d285d73b36b49a5b0a1d8ab4c20af0f87b19dc30fb43e7ee357896c174b1cc9", func := "waystation/waystationlaw08.LedgerCalls", spec := "ledgerCalls", apart := false }
def LedgerCallsSaid : Prop := ledgerCallsRow.holds Try.pinned (OpenSpec.ofChange ledgerCallsSpec)

/-- ITS FALSE NEIGHBOUR: 'it returns false'. Refute it at one input. -/
def ledgerCallsWrong : ChangeSpec := { name := "ledgerCalls", fn := fun _ => fun
  | [d1, d2, d3] => { results := [.lit (.bool false)], args := [d1, d2, d3] }
  | _ => none }
def LedgerCallsWrongFalsely : Prop := ledgerCallsRow.holds Try.pinned (OpenSpec.ofChange ledgerCallsWrong)

/-- 'waystationlaw08.LedgerAny': WHATEVER THE INPUT: true; the input reads as it did. -/
def ledgerAnySpec : ChangeSpec := { name := "ledgerAny", fn := fun _ => fun
  | [d1, d2, d3] => { results := [.lit (.bool true)], args := [d1, d2, d3] }
  | _ => none }
def ledgerAnyRow : OpenClaim := { program := "ytdekijaognfjcaa", sum := "7d285d73b36b49a5b0a1d8ab4c20af0f87b19dc30fb43e7ee357896c174b1cc9", func := "waystation/waystationlaw08.LedgerAny", spec := "ledgerAny", apart := false }
def LedgerAnySaid : Prop := ledgerAnyRow.holds Try.pinned (OpenSpec.ofChange ledgerAnySpec)

/-- ITS FALSE NEIGHBOUR: 'it returns false'. Refute it at one input. -/
def ledgerAnyWrong : ChangeSpec := { name := "ledgerAny", fn := fun _ => fun
  | [d1, d2, d3] => { results := [.lit (.bool false)], args := [d1, d2, d3] }
  | _ => none }
def LedgerAnyWrongFalsely : Prop := ledgerAnyRow.holds Try.pinned (OpenSpec.ofChange ledgerAnyWrong)

/-- 'waystationlaw08.LedgerGroup': WHATEVER THE INPUT: true; the input reads as it did. -/
def ledgerGroupSpec : ChangeSpec := { name := "ledgerGroup", fn := fun _ => fun
  | [d1, d2, d3] => { results := [.lit (.bool true)], args := [d1, d2, d3] }
  | _ => none }
def ledgerGroupRow : OpenClaim := { program := "ytdekijaognfjcaa", sum := "7d285d73b36b49a5b0a1d8ab4c20af0f87b19dc30fb43e7ee357896c174b1cc9", func := "waystation/waystationlaw08.LedgerGroup", spec := "ledgerGroup", apart := false }
def LedgerGroupSaid : Prop := ledgerGroupRow.holds Try.pinned (OpenSpec.ofChange ledgerGroupSpec)

/-- ITS FALSE NEIGHBOUR: 'it returns false'. Refute it at one input. -/
def ledgerGroupWrong : ChangeSpec := { name := "ledgerGroup", fn := fun _ => fun
  | [d1, d2, d3] => { results := [.lit (.bool false)], args := [d1, d2, d3] }
  | _ => none }
def LedgerGroupWrongFalsely : Prop := ledgerGroupRow.holds Try.pinned (OpenSpec.ofChange ledgerGroupWrong)

/-- 'waystationlaw08.LedgerKeys': WHATEVER THE INPUT: true; the input reads as it did. -/
def ledgerKeysSpec : ChangeSpec := { name := "ledgerKeys", fn := fun _ => fun
  | [d1, d2] => { results := [.lit (.bool true)], args := [d1, d2] }
  | _ => none }
def ledgerKeysRow : OpenClaim := { program := "ytdekijaognfjcaa", sum := "7d285d73b36b49a5b0a1d8ab4c20af0f87b19dc30fb43e7ee357896c174b1cc9", func := "waystation/waystationlaw08.LedgerKeys", spec := "ledgerKeys", apart := false }
def LedgerKeysSaid : Prop := ledgerKeysRow.holds Try.pinned (OpenSpec.ofChange ledgerKeysSpec)

/-- ITS FALSE NEIGHBOUR: 'it returns false'. Refute it at one input. -/
def ledgerKeysWrong : ChangeSpec := { name := "ledgerKeys", fn := fun _ => fun
  | [d1, d2] => { results := [.lit (.bool false)], args := [d1, d2] }
  | _ => none }
def LedgerKeysWrongFalsely : Prop := ledgerKeysRow.holds Try.pinned (OpenSpec.ofChange ledgerKeysWrong)

/-- 'waystationlaw08.LedgerGets': WHATEVER THE INPUT: true; the input reads as it did. -/
def ledgerGetsSpec : ChangeSpec := { name := "ledgerGets", fn := fun _ => fun
  | [d1, d2, d3] => { results := [.lit (.bool true)], args := [d1, d2, d3] }
  | _ => none }
def ledgerGetsRow : OpenClaim := { program := "ytdekijaognfjcaa", sum := "7d285d73b36b49a5b0a1d8ab4c20af0f87b19dc30fb43e7ee357896c174b1cc9", func := "waystation/waystationlaw08.LedgerGets", spec := "ledgerGets", apart := false }
def LedgerGetsSaid : Prop := ledgerGetsRow.holds Try.pinned (OpenSpec.ofChange ledgerGetsSpec)

/-- ITS FALSE NEIGHBOUR: 'it returns false'. Refute it at one input. -/
def ledgerGetsWrong : ChangeSpec := { name := "ledgerGets", fn := fun _ => fun
  | [d1, d2, d3] => { results := [.lit (.bool false)], args := [d1, d2, d3] }
  | _ => none }
def LedgerGetsWrongFalsely : Prop := ledgerGetsRow.holds Try.pinned (OpenSpec.ofChange ledgerGetsWrong)

/-- 'waystationlaw08.LedgerZero': WHATEVER THE INPUT: true; the input reads as it did. -/
def ledgerZeroSpec : ChangeSpec := { name := "ledgerZero", fn := fun _ => fun
  | [d1, d2, d3] => { results := [.lit (.bool true)], args := [d1, d2, d3] }
  | _ => none }
def ledgerZeroRow : OpenClaim := { program := "ytdekijaognfjcaa", sum := "7d285d73b36b49a5b0a1d8ab4c20af0f87b19dc30fb43e7ee357896c174b1cc9", func := "waystation/waystationlaw08.LedgerZero", spec := "ledgerZero", apart := false }
def LedgerZeroSaid : Prop := ledgerZeroRow.holds Try.pinned (OpenSpec.ofChange ledgerZeroSpec)

/-- ITS FALSE NEIGHBOUR: 'it returns false'. Refute it at one input. -/
def ledgerZeroWrong : ChangeSpec := { name := "ledgerZero", fn := fun _ => fun
  | [d1, d2, d3] => { results := [.lit (.bool false)], args := [d1, d2, d3] }
  | _ => none }
def LedgerZeroWrongFalsely : Prop := ledgerZeroRow.holds Try.pinned (OpenSpec.ofChange ledgerZeroWrong)

/- THE SECOND FORM. 'bulk': how many values and letters a reading holds, each counted each time it is reached (what is shared counts as often as it is met; a slice's spare places count too). A statement '..UptoSaid' is the law's where the arguments, and the package variables that the reading takes, are together of bulk at most 1048576: NARROWER than '..Said'. Prove '..Said' where nothing that the law and all that it calls make is longer than what came in: it says more and counts as full. Else prove '..UptoSaid'. A law counts once. -/
mutual
def uptoBulk {H : Type} : DataW H → Nat
  | .lit (.string bytes) => bytes.length + 1
  | .lit _ => 1
  | .nil => 1
  | .ptr d => uptoBulk d + 1
  | .slice elems spare => uptoBulkAll elems + uptoBulkAll spare + 1
  | .agg parts => uptoBulkAll parts + 1
  | .iface _ d => uptoBulk d + 1
  | .map entries => uptoBulkEntries entries + 1
  | .held _ => 1
def uptoBulkAll {H : Type} : List (DataW H) → Nat
  | [] => 0
  | d :: r => uptoBulk d + uptoBulkAll r
def uptoBulkEntries {H : Type} : List (Lit × DataW H) → Nat
  | [] => 0
  | x :: r => uptoBulkEntry x + uptoBulkEntries r
def uptoBulkEntry {H : Type} : Lit × DataW H → Nat
  | (.string bytes, d) => bytes.length + uptoBulk d + 1
  | (_, d) => uptoBulk d + 1
 end
def uptoSmall : (H : Type) → List (DataW H) → Bool := fun _ ds => decide (uptoBulkAll ds ≤ 1048576)
def OpenSpec.upto (s : _root_.Go.ChangeSpec) : _root_.Go.OpenSpec := { _root_.Go.OpenSpec.ofChange s with cond := some uptoSmall }

/-- 'waystationlaw08.LedgerCalls', WHERE WHAT IT READS IS OF BULK AT MOST 1048576: true; the input reads as it did. -/
def ledgerCallsUptoRow : OpenClaim := { program := "ytdekijaognfjcaa", sum := "7d285d73b36b49a5b0a1d8ab4c20af0f87b19dc30fb43e7ee357896c174b1cc9", func := "waystation/waystationlaw08.LedgerCalls", spec := "ledgerCalls", apart := false, narrowed := true }
def LedgerCallsUptoSaid : Prop := ledgerCallsUptoRow.holds Try.pinned (OpenSpec.upto ledgerCallsSpec)

/-- 'waystationlaw08.LedgerAny', WHERE WHAT IT READS IS OF BULK AT MOST 1048576: true; the input reads as it did. -/
def ledgerAnyUptoRow : OpenClaim := { program := "ytdekijaognfjcaa", sum := "7d285d73b36b49a5b0a1d8ab4c20af0f87b19dc30fb43e7ee357896c174b1cc9", func := "waystation/waystationlaw08.LedgerAny", spec := "ledgerAny", apart := false, narrowed := true }
def LedgerAnyUptoSaid : Prop := ledgerAnyUptoRow.holds Try.pinned (OpenSpec.upto ledgerAnySpec)

/-- 'waystationlaw08.LedgerGroup', WHERE WHAT IT READS IS OF BULK AT MOST 1048576: true; the input reads as it did. -/
def ledgerGroupUptoRow : OpenClaim := { program := "ytdekijaognfjcaa", sum := "7d285d73b36b49a5b0a1d8ab4c20af0f87b19dc30fb43e7ee357896c174b1cc9", func := "waystation/waystationlaw08.LedgerGroup", spec := "ledgerGroup", apart := false, narrowed := true }
def LedgerGroupUptoSaid : Prop := ledgerGroupUptoRow.holds Try.pinned (OpenSpec.upto ledgerGroupSpec)

/-- 'waystationlaw08.LedgerKeys', WHERE WHAT IT READS IS OF BULK AT MOST 1048576: true; the input reads as it did. -/
def ledgerKeysUptoRow : OpenClaim := { program := "ytdekijaognfjcaa", sum := "7d285d73b36b49a5b0a1d8ab4c20af0f87b19dc30fb43e7ee357896c174b1cc9", func := "waystation/waystationlaw08.LedgerKeys", spec := "ledgerKeys", apart := false, narrowed := true }
def LedgerKeysUptoSaid : Prop := ledgerKeysUptoRow.holds Try.pinned (OpenSpec.upto ledgerKeysSpec)

/-- 'waystationlaw08.LedgerGets', WHERE WHAT IT READS IS OF BULK AT MOST 1048576: true; the input reads as it did. -/
def ledgerGetsUptoRow : OpenClaim := { program := "ytdekijaognfjcaa", sum := "7d285d73b36b49a5b0a1d8ab4c20af0f87b19dc30fb43e7ee357896c174b1cc9", func := "waystation/waystationlaw08.LedgerGets", spec := "ledgerGets", apart := false, narrowed := true }
def LedgerGetsUptoSaid : Prop := ledgerGetsUptoRow.holds Try.pinned (OpenSpec.upto ledgerGetsSpec)

/-- 'waystationlaw08.LedgerZero', WHERE WHAT IT READS IS OF BULK AT MOST 1048576: true; the input reads as it did. -/
def ledgerZeroUptoRow : OpenClaim := { program := "ytdekijaognfjcaa", sum := "7d285d73b36b49a5b0a1d8ab4c20af0f87b19dc30fb43e7ee357896c174b1cc9", func := "waystation/waystationlaw08.LedgerZero", spec := "ledgerZero", apart := false, narrowed := true }
def LedgerZeroUptoSaid : Prop := ledgerZeroUptoRow.holds Try.pinned (OpenSpec.upto ledgerZeroSpec)

end Rows
end Go.Proofs.Ytdekijaognfjcaa
