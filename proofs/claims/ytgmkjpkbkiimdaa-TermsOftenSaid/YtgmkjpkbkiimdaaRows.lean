/-
  No cell of these rows narrows 'for every input' (looked for: loops, veiled, ifaces, maps, wideKeys, modest, calm, conditions, laid).
  DERIVED. THE GIVEN ROWS OF THIS SEAT. 7 by the template 'for every input the law returns true; each argument reads behind the call as it read before'; 0 by the template 'total and deterministic' (their statements: YtgmkjpkbkiimdaaTotals.lean).
  GIVEN WITH THE SEED: the statements are not yours to turn. If you find one false, say at which input.
  Laid BY PROGRAM, IN A SANDBOX (cutbox-rows.mjs): the forced cells as the released guide's own fill.sh prints them over the translation 81fbb304a70008da… (all of the seat's roots in one cut). By AI agents, Wed Nov 11 2026. No macro, syntax, notation, axiom, sorry.
-/
import Derived.Test.YtgmkjpkbkiimdaaChecked
import GoSem.Claim
import GoSem.ClaimJoined
import GoSem.ClaimMapViews
import Derived.JoinedTies
import Derived.KernelRfl
namespace Go.Proofs.Ytgmkjpkbkiimdaa
/- THE CELL 'sum', in the pinned program and in every row, IS THE sha256 OF THE DUMP (.gsa) THAT YtgmkjpkbkiimdaaProg.lean LOADS. Nothing in Lean hashes anything: it is a label: what it is worth is what the hold of that sum in a sandbox is worth. -/
noncomputable def Try.pinned : Pinned := { name := "ytgmkjpkbkiimdaa", sum := "81fbb304a70008da6efc9ad75f32e3b9b8f270486802e61e69e50357091eed34", checked := Try.checked }
namespace Rows
def none {H : Type} : Left H := { results := [], args := [] }

/-- 'waystationlaw13.TermsCalls': WHATEVER THE INPUT: true; the input reads as it did. -/
def termsCallsSpec : ChangeSpec := { name := "termsCalls", fn := fun _ => fun
  | [d1, d2] => { results := [.lit (.bool true)], args := [d1, d2] }
  | _ => none }
def termsCallsRow : OpenClaim := { program := "ytgmkjpkbkiimdaa", sum := "81fbb304a70008da6efc9ad75f32e3b9b8f270486802e61e69e50357091eed34", func := "waystation/waystationlaw13.TermsCalls", spec := "termsCalls", apart := false }
def TermsCallsSaid : Prop := termsCallsRow.holds Try.pinned (OpenSpec.ofChange termsCallsSpec)

/-- ITS FALSE NEIGHBOUR: 'it returns false'. Refute it at one input. -/
def termsCallsWrong : ChangeSpec := { name := "termsCalls", fn := fun _ => fun
  | [d1, d2] => { results := [.lit (.bool false)], args := [d1, d2] }
  | _ => none }
def TermsCallsWrongFalsely : Prop := termsCallsRow.holds Try.pinned (OpenSpec.ofChange termsCallsWrong)

/-- 'waystationlaw13.TermsBegin': WHATEVER THE INPUT: true; the input reads as it did. -/
def termsBeginSpec : ChangeSpec := { name := "termsBegin", fn := fun _ => fun
  | [d1, d2, d3] => { results := [.lit (.bool true)], args := [d1, d2, d3] }
  | _ => none }
def termsBeginRow : OpenClaim := { program := "ytgmkjpkbkiimdaa", sum := "81fbb304a70008da6efc9ad75f32e3b9b8f270486802e61e69e50357091eed34", func := "waystation/waystationlaw13.TermsBegin", spec := "termsBegin", apart := false }
def TermsBeginSaid : Prop := termsBeginRow.holds Try.pinned (OpenSpec.ofChange termsBeginSpec)

/-- ITS FALSE NEIGHBOUR: 'it returns false'. Refute it at one input. -/
def termsBeginWrong : ChangeSpec := { name := "termsBegin", fn := fun _ => fun
  | [d1, d2, d3] => { results := [.lit (.bool false)], args := [d1, d2, d3] }
  | _ => none }
def TermsBeginWrongFalsely : Prop := termsBeginRow.holds Try.pinned (OpenSpec.ofChange termsBeginWrong)

/-- 'waystationlaw13.TermsBounded': WHATEVER THE INPUT: true; the input reads as it did. -/
def termsBoundedSpec : ChangeSpec := { name := "termsBounded", fn := fun _ => fun
  | [d1, d2] => { results := [.lit (.bool true)], args := [d1, d2] }
  | _ => none }
def termsBoundedRow : OpenClaim := { program := "ytgmkjpkbkiimdaa", sum := "81fbb304a70008da6efc9ad75f32e3b9b8f270486802e61e69e50357091eed34", func := "waystation/waystationlaw13.TermsBounded", spec := "termsBounded", apart := false }
def TermsBoundedSaid : Prop := termsBoundedRow.holds Try.pinned (OpenSpec.ofChange termsBoundedSpec)

/-- ITS FALSE NEIGHBOUR: 'it returns false'. Refute it at one input. -/
def termsBoundedWrong : ChangeSpec := { name := "termsBounded", fn := fun _ => fun
  | [d1, d2] => { results := [.lit (.bool false)], args := [d1, d2] }
  | _ => none }
def TermsBoundedWrongFalsely : Prop := termsBoundedRow.holds Try.pinned (OpenSpec.ofChange termsBoundedWrong)

/-- 'waystationlaw13.TermsSuit': WHATEVER THE INPUT: true; the input reads as it did. -/
def termsSuitSpec : ChangeSpec := { name := "termsSuit", fn := fun _ => fun
  | [d1, d2, d3] => { results := [.lit (.bool true)], args := [d1, d2, d3] }
  | _ => none }
def termsSuitRow : OpenClaim := { program := "ytgmkjpkbkiimdaa", sum := "81fbb304a70008da6efc9ad75f32e3b9b8f270486802e61e69e50357091eed34", func := "waystation/waystationlaw13.TermsSuit", spec := "termsSuit", apart := false }
def TermsSuitSaid : Prop := termsSuitRow.holds Try.pinned (OpenSpec.ofChange termsSuitSpec)

/-- ITS FALSE NEIGHBOUR: 'it returns false'. Refute it at one input. -/
def termsSuitWrong : ChangeSpec := { name := "termsSuit", fn := fun _ => fun
  | [d1, d2, d3] => { results := [.lit (.bool false)], args := [d1, d2, d3] }
  | _ => none }
def TermsSuitWrongFalsely : Prop := termsSuitRow.holds Try.pinned (OpenSpec.ofChange termsSuitWrong)

/-- 'waystationlaw13.TermsOver': WHATEVER THE INPUT: true; the input reads as it did. -/
def termsOverSpec : ChangeSpec := { name := "termsOver", fn := fun _ => fun
  | [d1, d2, d3] => { results := [.lit (.bool true)], args := [d1, d2, d3] }
  | _ => none }
def termsOverRow : OpenClaim := { program := "ytgmkjpkbkiimdaa", sum := "81fbb304a70008da6efc9ad75f32e3b9b8f270486802e61e69e50357091eed34", func := "waystation/waystationlaw13.TermsOver", spec := "termsOver", apart := false }
def TermsOverSaid : Prop := termsOverRow.holds Try.pinned (OpenSpec.ofChange termsOverSpec)

/-- ITS FALSE NEIGHBOUR: 'it returns false'. Refute it at one input. -/
def termsOverWrong : ChangeSpec := { name := "termsOver", fn := fun _ => fun
  | [d1, d2, d3] => { results := [.lit (.bool false)], args := [d1, d2, d3] }
  | _ => none }
def TermsOverWrongFalsely : Prop := termsOverRow.holds Try.pinned (OpenSpec.ofChange termsOverWrong)

/-- 'waystationlaw13.TermsOften': WHATEVER THE INPUT: true; the input reads as it did. -/
def termsOftenSpec : ChangeSpec := { name := "termsOften", fn := fun _ => fun
  | [d1, d2, d3] => { results := [.lit (.bool true)], args := [d1, d2, d3] }
  | _ => none }
def termsOftenRow : OpenClaim := { program := "ytgmkjpkbkiimdaa", sum := "81fbb304a70008da6efc9ad75f32e3b9b8f270486802e61e69e50357091eed34", func := "waystation/waystationlaw13.TermsOften", spec := "termsOften", apart := false }
def TermsOftenSaid : Prop := termsOftenRow.holds Try.pinned (OpenSpec.ofChange termsOftenSpec)

/-- ITS FALSE NEIGHBOUR: 'it returns false'. Refute it at one input. -/
def termsOftenWrong : ChangeSpec := { name := "termsOften", fn := fun _ => fun
  | [d1, d2, d3] => { results := [.lit (.bool false)], args := [d1, d2, d3] }
  | _ => none }
def TermsOftenWrongFalsely : Prop := termsOftenRow.holds Try.pinned (OpenSpec.ofChange termsOftenWrong)

/-- 'waystationlaw13.TermsLast': WHATEVER THE INPUT: true; the input reads as it did. -/
def termsLastSpec : ChangeSpec := { name := "termsLast", fn := fun _ => fun
  | [d1, d2, d3] => { results := [.lit (.bool true)], args := [d1, d2, d3] }
  | _ => none }
def termsLastRow : OpenClaim := { program := "ytgmkjpkbkiimdaa", sum := "81fbb304a70008da6efc9ad75f32e3b9b8f270486802e61e69e50357091eed34", func := "waystation/waystationlaw13.TermsLast", spec := "termsLast", apart := false }
def TermsLastSaid : Prop := termsLastRow.holds Try.pinned (OpenSpec.ofChange termsLastSpec)

/-- ITS FALSE NEIGHBOUR: 'it returns false'. Refute it at one input. -/
def termsLastWrong : ChangeSpec := { name := "termsLast", fn := fun _ => fun
  | [d1, d2, d3] => { results := [.lit (.bool false)], args := [d1, d2, d3] }
  | _ => none }
def TermsLastWrongFalsely : Prop := termsLastRow.holds Try.pinned (OpenSpec.ofChange termsLastWrong)

/- THE SECOND FORM. 'bulk': how many values and letters a reading holds, each counted each time it is reached (what is shared counts as often as it is met; a slice's spare places count too). A statement '..UptoSaid' is the law's where the arguments, and the package variables that the reading takes, are together of bulk at most 1048576: NARROWER than '..Said'. Prove '..Said' where nothing that the law and all that it calls make is longer than what came in: it says more and counts as full. Else prove '..UptoSaid'. A law counts once. -/
mutual
def uptoBulk {H : Type} : DataW H → Nat
  | .lit (.string bytes) => bytes.length + 1
  | .lit _ => 1
  | .nil => 1
  | .ptr d => uptoBulk d + 1
  | .slice elems spare => uptoBulkAll elems + uptoBulkAll spare + 1
  | .agg parts => uptoBulkAll parts + 1
  | .iface _ d => uptoBulk d + 1
  | .map entries => uptoBulkEntries entries + 1
  | .held _ => 1
def uptoBulkAll {H : Type} : List (DataW H) → Nat
  | [] => 0
  | d :: r => uptoBulk d + uptoBulkAll r
def uptoBulkEntries {H : Type} : List (Lit × DataW H) → Nat
  | [] => 0
  | x :: r => uptoBulkEntry x + uptoBulkEntries r
def uptoBulkEntry {H : Type} : Lit × DataW H → Nat
  | (.string bytes, d) => bytes.length + uptoBulk d + 1
  | (_, d) => uptoBulk d + 1
 end
def uptoSmall : (H : Type) → List (DataW H) → Bool := fun _ ds => decide (uptoBulkAll ds ≤ 1048576)
def OpenSpec.upto (s : _root_.Go.ChangeSpec) : _root_.Go.OpenSpec := { _root_.Go.OpenSpec.ofChange s with cond := some uptoSmall }

/-- 'waystationlaw13.TermsCalls', WHERE WHAT IT READS IS OF BULK AT MOST 1048576: true; the input reads as it did. -/
def termsCallsUptoRow : OpenClaim := { program := "ytgmkjpkbkiimdaa", sum := "81fbb304a70008da6efc9ad75f32e3b9b8f270486802e61e69e50357091eed34", func := "waystation/waystationlaw13.TermsCalls", spec := "termsCalls", apart := false, narrowed := true }
def TermsCallsUptoSaid : Prop := termsCallsUptoRow.holds Try.pinned (OpenSpec.upto termsCallsSpec)

/-- 'waystationlaw13.TermsBegin', WHERE WHAT IT READS IS OF BULK AT MOST 1048576: true; the input reads as it did. -/
def termsBeginUptoRow : OpenClaim := { program := "ytgmkjpkbkiimdaa", sum := "81fbb304a70008da6efc9ad75f32e3b9b8f270486802e61e69e50357091eed34", func := "waystation/waystationlaw13.TermsBegin", spec := "termsBegin", apart := false, narrowed := true }
def TermsBeginUptoSaid : Prop := termsBeginUptoRow.holds Try.pinned (OpenSpec.upto termsBeginSpec)

/-- 'waystationlaw13.TermsBounded', WHERE WHAT IT READS IS OF BULK AT MOST 1048576: true; the input reads as it did. -/
def termsBoundedUptoRow : OpenClaim := { program := "ytgmkjpkbkiimdaa", sum := "81fbb304a70008da6efc9ad75f32e3b9b8f270486802e61e69e50357091eed34", func := "waystation/waystationlaw13.TermsBounded", spec := "termsBounded", apart := false, narrowed := true }
def TermsBoundedUptoSaid : Prop := termsBoundedUptoRow.holds Try.pinned (OpenSpec.upto termsBoundedSpec)

/-- 'waystationlaw13.TermsSuit', WHERE WHAT IT READS IS OF BULK AT MOST 1048576: true; the input reads as it did. -/
def termsSuitUptoRow : OpenClaim := { program := "ytgmkjpkbkiimdaa", sum := "81fbb304a70008da6efc9ad75f32e3b9b8f270486802e61e69e50357091eed34", func := "waystation/waystationlaw13.TermsSuit", spec := "termsSuit", apart := false, narrowed := true }
def TermsSuitUptoSaid : Prop := termsSuitUptoRow.holds Try.pinned (OpenSpec.upto termsSuitSpec)

/-- 'waystationlaw13.TermsOver', WHERE WHAT IT READS IS OF BULK AT MOST 1048576: true; the input reads as it did. -/
def termsOverUptoRow : OpenClaim := { program := "ytgmkjpkbkiimdaa", sum := "81fbb304a70008da6efc9ad75f32e3b9b8f270486802e61e69e50357091eed34", func := "waystation/waystationlaw13.TermsOver", spec := "termsOver", apart := false, narrowed := true }
def TermsOverUptoSaid : Prop := termsOverUptoRow.holds Try.pinned (OpenSpec.upto termsOverSpec)

/-- 'waystationlaw13.TermsOften', WHERE WHAT IT READS IS OF BULK AT MOST 1048576: true; the input reads as it did. -/
def termsOftenUptoRow : OpenClaim := { program := "ytgmkjpkbkiimdaa", sum := "81fbb304a70008da6efc9ad75f32e3b9b8f270486802e61e69e50357091eed34", func := "waystation/waystationlaw13.TermsOften", spec := "termsOften", apart := false, narrowed := true }
def TermsOftenUptoSaid : Prop := termsOftenUptoRow.holds Try.pinned (OpenSpec.upto termsOftenSpec)

/-- 'waystationlaw13.TermsLast', WHERE WHAT IT READS IS OF BULK AT MOST 1048576: true; the input reads as it did. -/
def termsLastUptoRow : OpenClaim := { program := "ytgmkjpkbkiimdaa", sum := "81fbb304a70008da6efc9ad75f32e3b9b8f270486802e61e69e50357091eed34", func := "waystation/waystationlaw13.TermsLast", spec := "termsLast", apart := false, narrowed := true }
def TermsLastUptoSaid : Prop := termsLastUptoRow.holds Try.pinned (OpenSpec.upto termsLastSpec)

end Rows
end Go.Proofs.Ytgmkjpkbkiimdaa
