/-
  No cell of these rows narrows 'for every input' (looked for: loops, veiled, ifaces, maps, wideKeys, modest, calm, conditions, laid).
  DERIVED. THE GIVEN ROWS OF THIS SEAT. 7 by the template 'for every input the law returns true; each argument reads behind the call as it read before'; 0 by the template 'total and deterministic' (their statements: YtjooceaclfdjjaaTotals.lean).
  GIVEN WITH THE SEED: the statements are not yours to turn. If you find one false, say at which input.
  Laid BY PROGRAM, IN A SANDBOX (cutbox-rows.mjs): the forced cells as the released guide's own fill.sh prints them over the translation bae8600be2b1f118… (all of the seat's roots in one cut). By AI agents, Wed Nov 11 2026. No macro, syntax, notation, axiom, sorry.
-/
import Derived.Test.YtjooceaclfdjjaaChecked
import GoSem.Claim
import GoSem.ClaimJoined
import GoSem.ClaimMapViews
import Derived.JoinedTies
import Derived.KernelRfl
namespace Go.Proofs.Ytjooceaclfdjjaa
/- THE CELL 'sum', in the pinned program and in every row, IS THE sha256 OF THE DUMP (.gsa) THAT YtjooceaclfdjjaaProg.lean LOADS. Nothing in Lean hashes anything: it is a label: what it is worth is what the hold of that sum in a sandbox is worth. -/
noncomputable def Try.pinned : Pinned := { name := "ytjooceaclfdjjaa", sum := "bae8600be2b1f1187d76184f830667b6f4aa9c10d256d2ffc4250d2129263f09", checked := Try.checked }
namespace Rows
def none {H : Type} : Left H := { results := [], args := [] }

/-- 'waystationlaw14.TallyCalls': WHATEVER THE INPUT: true; the input reads as it did. -/
def tallyCallsSpec : ChangeSpec := { name := "tallyCalls", fn := fun _ => fun
  | [d1, d2, d3] => { results := [.lit (.bool true)], args := [d1, d2, d3] }
  | _ => none }
def tallyCallsRow : OpenClaim := { program := "ytjooceaclfdjjaa", sum := "bae8600be2b1f1187d76184f830667b6f4aa9c10d256d2ffc4250d2129263f09", func := "waystation/waystationlaw14.TallyCalls", spec := "tallyCalls", apart := false }
def TallyCallsSaid : Prop := tallyCallsRow.holds Try.pinned (OpenSpec.ofChange tallyCallsSpec)

/-- ITS FALSE NEIGHBOUR: 'it returns false'. Refute it at one input. -/
def tallyCallsWrong : ChangeSpec := { name := "tallyCalls", fn := fun _ => fun
  | [d1, d2, d3] => { results := [.lit (.bool false)], args := [d1, d2, d3] }
  | _ => none }
def TallyCallsWrongFalsely : Prop := tallyCallsRow.holds Try.pinned (OpenSpec.ofChange tallyCallsWrong)

/-- 'waystationlaw14.TallyStays': WHATEVER THE INPUT: true; the input reads as it did. -/
def tallyStaysSpec : ChangeSpec := { name := "tallyStays", fn := fun _ => fun
  | [d1, d2] => { results := [.lit (.bool true)], args := [d1, d2] }
  | _ => none }
def tallyStaysRow : OpenClaim := { program := "ytjooceaclfdjjaa", sum := "bae8600be2b1f1187d76184f830667b6f4aa9c10d256d2ffc4250d2129263f09", func := "waystation/waystationlaw14.TallyStays", spec := "tallyStays", apart := false }
def TallyStaysSaid : Prop := tallyStaysRow.holds Try.pinned (OpenSpec.ofChange tallyStaysSpec)

/-- ITS FALSE NEIGHBOUR: 'it returns false'. Refute it at one input. -/
def tallyStaysWrong : ChangeSpec := { name := "tallyStays", fn := fun _ => fun
  | [d1, d2] => { results := [.lit (.bool false)], args := [d1, d2] }
  | _ => none }
def TallyStaysWrongFalsely : Prop := tallyStaysRow.holds Try.pinned (OpenSpec.ofChange tallyStaysWrong)

/-- 'waystationlaw14.TallyAny': WHATEVER THE INPUT: true; the input reads as it did. -/
def tallyAnySpec : ChangeSpec := { name := "tallyAny", fn := fun _ => fun
  | [d1, d2, d3] => { results := [.lit (.bool true)], args := [d1, d2, d3] }
  | _ => none }
def tallyAnyRow : OpenClaim := { program := "ytjooceaclfdjjaa", sum := "bae8600be2b1f1187d76184f830667b6f4aa9c10d256d2ffc4250d2129263f09", func := "waystation/waystationlaw14.TallyAny", spec := "tallyAny", unfollowed := true, recurses := true, apart := false }
def TallyAnySaid : Prop := tallyAnyRow.holds Try.pinned (OpenSpec.ofChange tallyAnySpec)

/-- ITS FALSE NEIGHBOUR: 'it returns false'. Refute it at one input. -/
def tallyAnyWrong : ChangeSpec := { name := "tallyAny", fn := fun _ => fun
  | [d1, d2, d3] => { results := [.lit (.bool false)], args := [d1, d2, d3] }
  | _ => none }
def TallyAnyWrongFalsely : Prop := tallyAnyRow.holds Try.pinned (OpenSpec.ofChange tallyAnyWrong)

/-- 'waystationlaw14.TallyOld': WHATEVER THE INPUT: true; the input reads as it did. -/
def tallyOldSpec : ChangeSpec := { name := "tallyOld", fn := fun _ => fun
  | [d1, d2] => { results := [.lit (.bool true)], args := [d1, d2] }
  | _ => none }
def tallyOldRow : OpenClaim := { program := "ytjooceaclfdjjaa", sum := "bae8600be2b1f1187d76184f830667b6f4aa9c10d256d2ffc4250d2129263f09", func := "waystation/waystationlaw14.TallyOld", spec := "tallyOld", apart := false }
def TallyOldSaid : Prop := tallyOldRow.holds Try.pinned (OpenSpec.ofChange tallyOldSpec)

/-- ITS FALSE NEIGHBOUR: 'it returns false'. Refute it at one input. -/
def tallyOldWrong : ChangeSpec := { name := "tallyOld", fn := fun _ => fun
  | [d1, d2] => { results := [.lit (.bool false)], args := [d1, d2] }
  | _ => none }
def TallyOldWrongFalsely : Prop := tallyOldRow.holds Try.pinned (OpenSpec.ofChange tallyOldWrong)

/-- 'waystationlaw14.TallyOne': WHATEVER THE INPUT: true; the input reads as it did. -/
def tallyOneSpec : ChangeSpec := { name := "tallyOne", fn := fun _ => fun
  | [d1, d2] => { results := [.lit (.bool true)], args := [d1, d2] }
  | _ => none }
def tallyOneRow : OpenClaim := { program := "ytjooceaclfdjjaa", sum := "bae8600be2b1f1187d76184f830667b6f4aa9c10d256d2ffc4250d2129263f09", func := "waystation/waystationlaw14.TallyOne", spec := "tallyOne", apart := false }
def TallyOneSaid : Prop := tallyOneRow.holds Try.pinned (OpenSpec.ofChange tallyOneSpec)

/-- ITS FALSE NEIGHBOUR: 'it returns false'. Refute it at one input. -/
def tallyOneWrong : ChangeSpec := { name := "tallyOne", fn := fun _ => fun
  | [d1, d2] => { results := [.lit (.bool false)], args := [d1, d2] }
  | _ => none }
def TallyOneWrongFalsely : Prop := tallyOneRow.holds Try.pinned (OpenSpec.ofChange tallyOneWrong)

/-- 'waystationlaw14.TallyHears': WHATEVER THE INPUT: true; the input reads as it did. -/
def tallyHearsSpec : ChangeSpec := { name := "tallyHears", fn := fun _ => fun
  | [d1, d2, d3] => { results := [.lit (.bool true)], args := [d1, d2, d3] }
  | _ => none }
def tallyHearsRow : OpenClaim := { program := "ytjooceaclfdjjaa", sum := "bae8600be2b1f1187d76184f830667b6f4aa9c10d256d2ffc4250d2129263f09", func := "waystation/waystationlaw14.TallyHears", spec := "tallyHears", apart := false }
def TallyHearsSaid : Prop := tallyHearsRow.holds Try.pinned (OpenSpec.ofChange tallyHearsSpec)

/-- ITS FALSE NEIGHBOUR: 'it returns false'. Refute it at one input. -/
def tallyHearsWrong : ChangeSpec := { name := "tallyHears", fn := fun _ => fun
  | [d1, d2, d3] => { results := [.lit (.bool false)], args := [d1, d2, d3] }
  | _ => none }
def TallyHearsWrongFalsely : Prop := tallyHearsRow.holds Try.pinned (OpenSpec.ofChange tallyHearsWrong)

/-- 'waystationlaw14.TallyBegins': WHATEVER THE INPUT: true; the input reads as it did. -/
def tallyBeginsSpec : ChangeSpec := { name := "tallyBegins", fn := fun _ => fun
  | [d] => { results := [.lit (.bool true)], args := [d] }
  | _ => none }
def tallyBeginsRow : OpenClaim := { program := "ytjooceaclfdjjaa", sum := "bae8600be2b1f1187d76184f830667b6f4aa9c10d256d2ffc4250d2129263f09", func := "waystation/waystationlaw14.TallyBegins", spec := "tallyBegins", apart := false }
def TallyBeginsSaid : Prop := tallyBeginsRow.holds Try.pinned (OpenSpec.ofChange tallyBeginsSpec)

/-- ITS FALSE NEIGHBOUR: 'it returns false'. Refute it at one input. -/
def tallyBeginsWrong : ChangeSpec := { name := "tallyBegins", fn := fun _ => fun
  | [d] => { results := [.lit (.bool false)], args := [d] }
  | _ => none }
def TallyBeginsWrongFalsely : Prop := tallyBeginsRow.holds Try.pinned (OpenSpec.ofChange tallyBeginsWrong)

/- THE SECOND FORM. 'bulk': how many values and letters a reading holds, each counted each time it is reached (what is shared counts as often as it is met; a slice's spare places count too). A statement '..UptoSaid' is the law's where the arguments, and the package variables that the reading takes, are together of bulk at most 1048576: NARROWER than '..Said'. Prove '..Said' where nothing that the law and all that it calls make is longer than what came in: it says more and counts as full. Else prove '..UptoSaid'. A law counts once. -/
mutual
def uptoBulk {H : Type} : DataW H → Nat
  | .lit (.string bytes) => bytes.length + 1
  | .lit _ => 1
  | .nil => 1
  | .ptr d => uptoBulk d + 1
  | .slice elems spare => uptoBulkAll elems + uptoBulkAll spare + 1
  | .agg parts => uptoBulkAll parts + 1
  | .iface _ d => uptoBulk d + 1
  | .map entries => uptoBulkEntries entries + 1
  | .held _ => 1
def uptoBulkAll {H : Type} : List (DataW H) → Nat
  | [] => 0
  | d :: r => uptoBulk d + uptoBulkAll r
def uptoBulkEntries {H : Type} : List (Lit × DataW H) → Nat
  | [] => 0
  | x :: r => uptoBulkEntry x + uptoBulkEntries r
def uptoBulkEntry {H : Type} : Lit × DataW H → Nat
  | (.string bytes, d) => bytes.length + uptoBulk d + 1
  | (_, d) => uptoBulk d + 1
 end
def uptoSmall : (H : Type) → List (DataW H) → Bool := fun _ ds => decide (uptoBulkAll ds ≤ 1048576)
def OpenSpec.upto (s : _root_.Go.ChangeSpec) : _root_.Go.OpenSpec := { _root_.Go.OpenSpec.ofChange s with cond := some uptoSmall }

/-- 'waystationlaw14.TallyCalls', WHERE WHAT IT READS IS OF BULK AT MOST 1048576: true; the input reads as it did. -/
def tallyCallsUptoRow : OpenClaim := { program := "ytjooceaclfdjjaa", sum := "bae8600be2b1f1187d76184f830667b6f4aa9c10d256d2ffc4250d2129263f09", func := "waystation/waystationlaw14.TallyCalls", spec := "tallyCalls", apart := false, narrowed := true }
def TallyCallsUptoSaid : Prop := tallyCallsUptoRow.holds Try.pinned (OpenSpec.upto tallyCallsSpec)

/-- 'waystationlaw14.TallyStays', WHERE WHAT IT READS IS OF BULK AT MOST 1048576: true; the input reads as it did. -/
def tallyStaysUptoRow : OpenClaim := { program := "ytjooceaclfdjjaa", sum := "bae8600be2b1f1187d76184f830667b6f4aa9c10d256d2ffc4250d2129263f09", func := "waystation/waystationlaw14.TallyStays", spec := "tallyStays", apart := false, narrowed := true }
def TallyStaysUptoSaid : Prop := tallyStaysUptoRow.holds Try.pinned (OpenSpec.upto tallyStaysSpec)

/-- 'waystationlaw14.TallyAny', WHERE WHAT IT READS IS OF BULK AT MOST 1048576: true; the input reads as it did. -/
def tallyAnyUptoRow : OpenClaim := { program := "ytjooceaclfdjjaa", sum := "bae8600be2b1f1187d76184f830667b6f4aa9c10d256d2ffc4250d2129263f09", func := "waystation/waystationlaw14.TallyAny", spec := "tallyAny", unfollowed := true, recurses := true, apart := false, narrowed := true }
def TallyAnyUptoSaid : Prop := tallyAnyUptoRow.holds Try.pinned (OpenSpec.upto tallyAnySpec)

/-- 'waystationlaw14.TallyOld', WHERE WHAT IT READS IS OF BULK AT MOST 1048576: true; the input reads as it did. -/
def tallyOldUptoRow : OpenClaim := { program := "ytjooceaclfdjjaa", sum := "bae8600be2b1f1187d76184f830667b6f4aa9c10d256d2ffc4250d2129263f09", func := "waystation/waystationlaw14.TallyOld", spec := "tallyOld", apart := false, narrowed := true }
def TallyOldUptoSaid : Prop := tallyOldUptoRow.holds Try.pinned (OpenSpec.upto tallyOldSpec)

/-- 'waystationlaw14.TallyOne', WHERE WHAT IT READS IS OF BULK AT MOST 1048576: true; the input reads as it did. -/
def tallyOneUptoRow : OpenClaim := { program := "ytjooceaclfdjjaa", sum := "bae8600be2b1f1187d76184f830667b6f4aa9c10d256d2ffc4250d2129263f09", func := "waystation/waystationlaw14.TallyOne", spec := "tallyOne", apart := false, narrowed := true }
def TallyOneUptoSaid : Prop := tallyOneUptoRow.holds Try.pinned (OpenSpec.upto tallyOneSpec)

/-- 'waystationlaw14.TallyHears', WHERE WHAT IT READS IS OF BULK AT MOST 1048576: true; the input reads as it did. -/
def tallyHearsUptoRow : OpenClaim := { program := "ytjooceaclfdjjaa", sum := "bae8600be2b1f1187d76184f830667b6f4aa9c10d256d2ffc4250d2129263f09", func := "waystation/waystationlaw14.TallyHears", spec := "tallyHears", apart := false, narrowed := true }
def TallyHearsUptoSaid : Prop := tallyHearsUptoRow.holds Try.pinned (OpenSpec.upto tallyHearsSpec)

/-- 'waystationlaw14.TallyBegins', WHERE WHAT IT READS IS OF BULK AT MOST 1048576: true; the input reads as it did. -/
def tallyBeginsUptoRow : OpenClaim := { program := "ytjooceaclfdjjaa", sum := "bae8600be2b1f1187d76184f830667b6f4aa9c10d256d2ffc4250d2129263f09", func := "waystation/waystationlaw14.TallyBegins", spec := "tallyBegins", apart := false, narrowed := true }
def TallyBeginsUptoSaid : Prop := tallyBeginsUptoRow.holds Try.pinned (OpenSpec.upto tallyBeginsSpec)

end Rows
end Go.Proofs.Ytjooceaclfdjjaa
