/-
  No cell of these rows narrows 'for every input' (looked for: loops, veiled, ifaces, maps, wideKeys, modest, calm, conditions, laid).
  DERIVED. THE GIVEN ROWS OF THIS SEAT. 6 by the template 'for every input the law returns true; each argument reads behind the call as it read before'; 0 by the template 'total and deterministic' (their statements: YtmbmbodcmobllaaTotals.lean).
  GIVEN WITH THE SEED: the statements are not yours to turn. If you find one false, say at which input.
  Laid BY PROGRAM, IN A SANDBOX (cutbox-rows.mjs): the forced cells as the released guide's own fill.sh prints them over the translation 61cca6b0d58dde34… (all of the seat's roots in one cut). By AI agents, Wed Nov 11 2026. No macro, syntax, notation, axiom, sorry.
-/
import Derived.Test.YtmbmbodcmobllaaChecked
import GoSem.Claim
import GoSem.ClaimJoined
import GoSem.ClaimMapViews
import Derived.JoinedTies
import Derived.KernelRfl
namespace Go.Proofs.Ytmbmbodcmobllaa
/- THE CELL 'sum', in the pinned program and in every row, IS THE sha256 OF THE DUMP (.gsa) THAT YtmbmbodcmobllaaProg.lean LOADS. Nothing in Lean hashes anything: it is a label: what it is worth is what the hold of that sum in a sandbox is worth. -/
noncomputable def Try.pinned : Pinned := { name := "ytmbmbodcmobllaa", sum := "61cca6b0d58dde34578edf0757f6bd0d49109b0eb0c4583c08c9d8713b7e0f8e", checked := Try.checked }
namespace Rows
def none {H : Type} : Left H := { results := [], args := [] }

/-- 'waystationlaw09.PartCalls': WHATEVER THE INPUT: true; the input reads as it did. -/
def partCallsSpec : ChangeSpec := { name := "partCalls", fn := fun _ => fun
  | [d1, d2] => { results := [.lit (.bool true)], args := [d1, d2] }
  | _ => none }
def partCallsRow : OpenClaim := { program := "ytmbmbodcmobllaa", sum := "61cca6b0d58dde34578edf0757f6bd0d49109b0eb0c4583c08c9d8713b7e0f8e", func := "waystation/waystationlaw09.PartCalls", spec := "partCalls", apart := false }
def PartCallsSaid : Prop := partCallsRow.holds Try.pinned (OpenSpec.ofChange partCallsSpec)

/-- ITS FALSE NEIGHBOUR: 'it returns false'. Refute it at one input. -/
def partCallsWrong : ChangeSpec := { name := "partCalls", fn := fun _ => fun
  | [d1, d2] => { results := [.lit (.bool false)], args := [d1, d2] }
  | _ => none }
def PartCallsWrongFalsely : Prop := partCallsRow.holds Try.pinned (OpenSpec.ofChange partCallsWrong)

/-- 'waystationlaw09.PartRow': WHATEVER THE INPUT: true; the input reads as it did. -/
def partRowSpec : ChangeSpec := { name := "partRow", fn := fun _ => fun
  | [d] => { results := [.lit (.bool true)], args := [d] }
  | _ => none }
def partRowRow : OpenClaim := { program := "ytmbmbodcmobllaa", sum := "61cca6b0d58dde34578edf0757f6bd0d49109b0eb0c4583c08c9d8713b7e0f8e", func := "waystation/waystationlaw09.PartRow", spec := "partRow", apart := false }
def PartRowSaid : Prop := partRowRow.holds Try.pinned (OpenSpec.ofChange partRowSpec)

/-- ITS FALSE NEIGHBOUR: 'it returns false'. Refute it at one input. -/
def partRowWrong : ChangeSpec := { name := "partRow", fn := fun _ => fun
  | [d] => { results := [.lit (.bool false)], args := [d] }
  | _ => none }
def PartRowWrongFalsely : Prop := partRowRow.holds Try.pinned (OpenSpec.ofChange partRowWrong)

/-- 'waystationlaw09.PartOnce': WHATEVER THE INPUT: true; the input reads as it did. -/
def partOnceSpec : ChangeSpec := { name := "partOnce", fn := fun _ => fun
  | [d] => { results := [.lit (.bool true)], args := [d] }
  | _ => none }
def partOnceRow : OpenClaim := { program := "ytmbmbodcmobllaa", sum := "61cca6b0d58dde34578edf0757f6bd0d49109b0eb0c4583c08c9d8713b7e0f8e", func := "waystation/waystationlaw09.PartOnce", spec := "partOnce", apart := false }
def PartOnceSaid : Prop := partOnceRow.holds Try.pinned (OpenSpec.ofChange partOnceSpec)

/-- ITS FALSE NEIGHBOUR: 'it returns false'. Refute it at one input. -/
def partOnceWrong : ChangeSpec := { name := "partOnce", fn := fun _ => fun
  | [d] => { results := [.lit (.bool false)], args := [d] }
  | _ => none }
def PartOnceWrongFalsely : Prop := partOnceRow.holds Try.pinned (OpenSpec.ofChange partOnceWrong)

/-- 'waystationlaw09.PartStays': WHATEVER THE INPUT: true; the input reads as it did. -/
def partStaysSpec : ChangeSpec := { name := "partStays", fn := fun _ => fun
  | [d1, d2] => { results := [.lit (.bool true)], args := [d1, d2] }
  | _ => none }
def partStaysRow : OpenClaim := { program := "ytmbmbodcmobllaa", sum := "61cca6b0d58dde34578edf0757f6bd0d49109b0eb0c4583c08c9d8713b7e0f8e", func := "waystation/waystationlaw09.PartStays", spec := "partStays", apart := false }
def PartStaysSaid : Prop := partStaysRow.holds Try.pinned (OpenSpec.ofChange partStaysSpec)

/-- ITS FALSE NEIGHBOUR: 'it returns false'. Refute it at one input. -/
def partStaysWrong : ChangeSpec := { name := "partStays", fn := fun _ => fun
  | [d1, d2] => { results := [.lit (.bool false)], args := [d1, d2] }
  | _ => none }
def PartStaysWrongFalsely : Prop := partStaysRow.holds Try.pinned (OpenSpec.ofChange partStaysWrong)

/-- 'waystationlaw09.PartSame': WHATEVER THE INPUT: true; the input reads as it did. -/
def partSameSpec : ChangeSpec := { name := "partSame", fn := fun _ => fun
  | [d1, d2] => { results := [.lit (.bool true)], args := [d1, d2] }
  | _ => none }
def partSameRow : OpenClaim := { program := "ytmbmbodcmobllaa", sum := "61cca6b0d58dde34578edf0757f6bd0d49109b0eb0c4583c08c9d8713b7e0f8e", func := "waystation/waystationlaw09.PartSame", spec := "partSame", apart := false }
def PartSameSaid : Prop := partSameRow.holds Try.pinned (OpenSpec.ofChange partSameSpec)

/-- ITS FALSE NEIGHBOUR: 'it returns false'. Refute it at one input. -/
def partSameWrong : ChangeSpec := { name := "partSame", fn := fun _ => fun
  | [d1, d2] => { results := [.lit (.bool false)], args := [d1, d2] }
  | _ => none }
def PartSameWrongFalsely : Prop := partSameRow.holds Try.pinned (OpenSpec.ofChange partSameWrong)

/-- 'waystationlaw09.PartFull': WHATEVER THE INPUT: true; the input reads as it did. -/
def partFullSpec : ChangeSpec := { name := "partFull", fn := fun _ => fun
  | [d1, d2] => { results := [.lit (.bool true)], args := [d1, d2] }
  | _ => none }
def partFullRow : OpenClaim := { program := "ytmbmbodcmobllaa", sum := "61cca6b0d58dde34578edf0757f6bd0d49109b0eb0c4583c08c9d8713b7e0f8e", func := "waystation/waystationlaw09.PartFull", spec := "partFull", apart := false }
def PartFullSaid : Prop := partFullRow.holds Try.pinned (OpenSpec.ofChange partFullSpec)

/-- ITS FALSE NEIGHBOUR: 'it returns false'. Refute it at one input. -/
def partFullWrong : ChangeSpec := { name := "partFull", fn := fun _ => fun
  | [d1, d2] => { results := [.lit (.bool false)], args := [d1, d2] }
  | _ => none }
def PartFullWrongFalsely : Prop := partFullRow.holds Try.pinned (OpenSpec.ofChange partFullWrong)

/- THE SECOND FORM. 'bulk': how many values and letters a reading holds, each counted each time it is reached (what is shared counts as often as it is met; a slice's spare places count too). A statement '..UptoSaid' is the law's where the arguments, and the package variables that the reading takes, are together of bulk at most 1048576: NARROWER than '..Said'. Prove '..Said' where nothing that the law and all that it calls make is longer than what came in: it says more and counts as full. Else prove '..UptoSaid'. A law counts once. -/
mutual
def uptoBulk {H : Type} : DataW H → Nat
  | .lit (.string bytes) => bytes.length + 1
  | .lit _ => 1
  | .nil => 1
  | .ptr d => uptoBulk d + 1
  | .slice elems spare => uptoBulkAll elems + uptoBulkAll spare + 1
  | .agg parts => uptoBulkAll parts + 1
  | .iface _ d => uptoBulk d + 1
  | .map entries => uptoBulkEntries entries + 1
  | .held _ => 1
def uptoBulkAll {H : Type} : List (DataW H) → Nat
  | [] => 0
  | d :: r => uptoBulk d + uptoBulkAll r
def uptoBulkEntries {H : Type} : List (Lit × DataW H) → Nat
  | [] => 0
  | x :: r => uptoBulkEntry x + uptoBulkEntries r
def uptoBulkEntry {H : Type} : Lit × DataW H → Nat
  | (.string bytes, d) => bytes.length + uptoBulk d + 1
  | (_, d) => uptoBulk d + 1
 end
def uptoSmall : (H : Type) → List (DataW H) → Bool := fun _ ds => decide (uptoBulkAll ds ≤ 1048576)
def OpenSpec.upto (s : _root_.Go.ChangeSpec) : _root_.Go.OpenSpec := { _root_.Go.OpenSpec.ofChange s with cond := some uptoSmall }

/-- 'waystationlaw09.PartCalls', WHERE WHAT IT READS IS OF BULK AT MOST 1048576: true; the input reads as it did. -/
def partCallsUptoRow : OpenClaim := { program := "ytmbmbodcmobllaa", sum := "61cca6b0d58dde34578edf0757f6bd0d49109b0eb0c4583c08c9d8713b7e0f8e", func := "waystation/waystationlaw09.PartCalls", spec := "partCalls", apart := false, narrowed := true }
def PartCallsUptoSaid : Prop := partCallsUptoRow.holds Try.pinned (OpenSpec.upto partCallsSpec)

/-- 'waystationlaw09.PartRow', WHERE WHAT IT READS IS OF BULK AT MOST 1048576: true; the input reads as it did. -/
def partRowUptoRow : OpenClaim := { program := "ytmbmbodcmobllaa", sum := "61cca6b0d58dde34578edf0757f6bd0d49109b0eb0c4583c08c9d8713b7e0f8e", func := "waystation/waystationlaw09.PartRow", spec := "partRow", apart := false, narrowed := true }
def PartRowUptoSaid : Prop := partRowUptoRow.holds Try.pinned (OpenSpec.upto partRowSpec)

/-- 'waystationlaw09.PartOnce', WHERE WHAT IT READS IS OF BULK AT MOST 1048576: true; the input reads as it did. -/
def partOnceUptoRow : OpenClaim := { program := "ytmbmbodcmobllaa", sum := "61cca6b0d58dde34578edf0757f6bd0d49109b0eb0c4583c08c9d8713b7e0f8e", func := "waystation/waystationlaw09.PartOnce", spec := "partOnce", apart := false, narrowed := true }
def PartOnceUptoSaid : Prop := partOnceUptoRow.holds Try.pinned (OpenSpec.upto partOnceSpec)

/-- 'waystationlaw09.PartStays', WHERE WHAT IT READS IS OF BULK AT MOST 1048576: true; the input reads as it did. -/
def partStaysUptoRow : OpenClaim := { program := "ytmbmbodcmobllaa", sum := "61cca6b0d58dde34578edf0757f6bd0d49109b0eb0c4583c08c9d8713b7e0f8e", func := "waystation/waystationlaw09.PartStays", spec := "partStays", apart := false, narrowed := true }
def PartStaysUptoSaid : Prop := partStaysUptoRow.holds Try.pinned (OpenSpec.upto partStaysSpec)

/-- 'waystationlaw09.PartSame', WHERE WHAT IT READS IS OF BULK AT MOST 1048576: true; the input reads as it did. -/
def partSameUptoRow : OpenClaim := { program := "ytmbmbodcmobllaa", sum := "61cca6b0d58dde34578edf0757f6bd0d49109b0eb0c4583c08c9d8713b7e0f8e", func := "waystation/waystationlaw09.PartSame", spec := "partSame", apart := false, narrowed := true }
def PartSameUptoSaid : Prop := partSameUptoRow.holds Try.pinned (OpenSpec.upto partSameSpec)

/-- 'waystationlaw09.PartFull', WHERE WHAT IT READS IS OF BULK AT MOST 1048576: true; the input reads as it did. -/
def partFullUptoRow : OpenClaim := { program := "ytmbmbodcmobllaa", sum := "61cca6b0d58dde34578edf0757f6bd0d49109b0eb0c4583c08c9d8713b7e0f8e", func := "waystation/waystationlaw09.PartFull", spec := "partFull", apart := false, narrowed := true }
def PartFullUptoSaid : Prop := partFullUptoRow.holds Try.pinned (OpenSpec.upto partFullSpec)

end Rows
end Go.Proofs.Ytmbmbodcmobllaa
