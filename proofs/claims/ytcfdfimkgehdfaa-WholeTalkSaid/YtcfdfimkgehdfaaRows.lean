/-
  No cell of these rows narrows 'for every input' (looked for: loops, veiled, ifaces, maps, wideKeys, modest, calm, conditions, laid).
  DERIVED. THE GIVEN ROWS OF THIS SEAT. 8 by the template 'for every input the law returns true; each argument reads behind the call as it read before'; 0 by the template 'total and deterministic' (their statements: YtcfdfimkgehdfaaTotals.lean).
  GIVEN WITH THE SEED: the statements are not yours to turn. If you find one false, say at which input.
  Laid BY PROGRAM, IN A SANDBOX (cutbox-rows.mjs): the forced cells as the released guide's own fill.sh prints them over the translation e7da08f91ad1b691… (all of the seat's roots in one cut). By AI agents, Wed Nov 11 2026. No macro, syntax, notation, axiom, sorry.
-/
import Derived.Test.YtcfdfimkgehdfaaChecked
import GoSem.Claim
import GoSem.ClaimJoined
import GoSem.ClaimMapViews
import Derived.JoinedTies
import Derived.KernelRfl
namespace Go.Proofs.Ytcfdfimkgehdfaa
/- THE CELL 'sum', in the pinned program and in every row, IS THE sha256 OF THE DUMP (.gsa) THAT YtcfdfimkgehdfaaProg.lean LOADS. Nothing in Lean hashes anything: it is a label: what it is worth is what the hold of that sum in a sandbox is worth. -/
noncomputable def Try.pinned : Pinned := { name := "ytcfdfimkgehdfaa", sum := "e7da08f91ad1b691705094a3c93045e6f8c41d9183aa942ef89935babff24821", checked := Try.checked }
namespace Rows
def none {H : Type} : Left H := { results := [], args := [] }

/-- 'waystationlaw18.AirActs': WHATEVER THE INPUT: true; the input reads as it did. -/
def airActsSpec : ChangeSpec := { name := "airActs", fn := fun _ => fun
  | [d1, d2] => { results := [.lit (.bool true)], args := [d1, d2] }
  | _ => none }
def airActsRow : OpenClaim := { program := "ytcfdfimkgehdfaa", sum := "e7da08f91ad1b691705094a3c93045e6f8c41d9183aa942ef89935babff24821", func := "waystation/waystationlaw18.AirActs", spec := "airActs", apart := false }
def AirActsSaid : Prop := airActsRow.holds Try.pinned (OpenSpec.ofChange airActsSpec)

/-- ITS FALSE NEIGHBOUR: 'it returns false'. Refute it at one input. -/
def airActsWrong : ChangeSpec := { name := "airActs", fn := fun _ => fun
  | [d1, d2] => { results := [.lit (.bool false)], args := [d1, d2] }
  | _ => none }
def AirActsWrongFalsely : Prop := airActsRow.holds Try.pinned (OpenSpec.ofChange airActsWrong)

/-- 'waystationlaw18.AirApart': WHATEVER THE INPUT: true; the input reads as it did. -/
def airApartSpec : ChangeSpec := { name := "airApart", fn := fun _ => fun
  | [d1, d2] => { results := [.lit (.bool true)], args := [d1, d2] }
  | _ => none }
def airApartRow : OpenClaim := { program := "ytcfdfimkgehdfaa", sum := "e7da08f91ad1b691705094a3c93045e6f8c41d9183aa942ef89935babff24821", func := "waystation/waystationlaw18.AirApart", spec := "airApart", apart := false }
def AirApartSaid : Prop := airApartRow.holds Try.pinned (OpenSpec.ofChange airApartSpec)

/-- ITS FALSE NEIGHBOUR: 'it returns false'. Refute it at one input. -/
def airApartWrong : ChangeSpec := { name := "airApart", fn := fun _ => fun
  | [d1, d2] => { results := [.lit (.bool false)], args := [d1, d2] }
  | _ => none }
def AirApartWrongFalsely : Prop := airApartRow.holds Try.pinned (OpenSpec.ofChange airApartWrong)

/-- 'waystationlaw18.AirOwn': WHATEVER THE INPUT: true; the input reads as it did. -/
def airOwnSpec : ChangeSpec := { name := "airOwn", fn := fun _ => fun
  | [d1, d2, d3] => { results := [.lit (.bool true)], args := [d1, d2, d3] }
  | _ => none }
def airOwnRow : OpenClaim := { program := "ytcfdfimkgehdfaa", sum := "e7da08f91ad1b691705094a3c93045e6f8c41d9183aa942ef89935babff24821", func := "waystation/waystationlaw18.AirOwn", spec := "airOwn", apart := false }
def AirOwnSaid : Prop := airOwnRow.holds Try.pinned (OpenSpec.ofChange airOwnSpec)

/-- ITS FALSE NEIGHBOUR: 'it returns false'. Refute it at one input. -/
def airOwnWrong : ChangeSpec := { name := "airOwn", fn := fun _ => fun
  | [d1, d2, d3] => { results := [.lit (.bool false)], args := [d1, d2, d3] }
  | _ => none }
def AirOwnWrongFalsely : Prop := airOwnRow.holds Try.pinned (OpenSpec.ofChange airOwnWrong)

/-- 'waystationlaw18.AirNobody': WHATEVER THE INPUT: true; the input reads as it did. -/
def airNobodySpec : ChangeSpec := { name := "airNobody", fn := fun _ => fun
  | [d1, d2] => { results := [.lit (.bool true)], args := [d1, d2] }
  | _ => none }
def airNobodyRow : OpenClaim := { program := "ytcfdfimkgehdfaa", sum := "e7da08f91ad1b691705094a3c93045e6f8c41d9183aa942ef89935babff24821", func := "waystation/waystationlaw18.AirNobody", spec := "airNobody", apart := false }
def AirNobodySaid : Prop := airNobodyRow.holds Try.pinned (OpenSpec.ofChange airNobodySpec)

/-- ITS FALSE NEIGHBOUR: 'it returns false'. Refute it at one input. -/
def airNobodyWrong : ChangeSpec := { name := "airNobody", fn := fun _ => fun
  | [d1, d2] => { results := [.lit (.bool false)], args := [d1, d2] }
  | _ => none }
def AirNobodyWrongFalsely : Prop := airNobodyRow.holds Try.pinned (OpenSpec.ofChange airNobodyWrong)

/-- 'waystationlaw18.AirRows': WHATEVER THE INPUT: true; the input reads as it did. -/
def airRowsSpec : ChangeSpec := { name := "airRows", fn := fun _ => fun
  | [d1, d2, d3] => { results := [.lit (.bool true)], args := [d1, d2, d3] }
  | _ => none }
def airRowsRow : OpenClaim := { program := "ytcfdfimkgehdfaa", sum := "e7da08f91ad1b691705094a3c93045e6f8c41d9183aa942ef89935babff24821", func := "waystation/waystationlaw18.AirRows", spec := "airRows", apart := false }
def AirRowsSaid : Prop := airRowsRow.holds Try.pinned (OpenSpec.ofChange airRowsSpec)

/-- ITS FALSE NEIGHBOUR: 'it returns false'. Refute it at one input. -/
def airRowsWrong : ChangeSpec := { name := "airRows", fn := fun _ => fun
  | [d1, d2, d3] => { results := [.lit (.bool false)], args := [d1, d2, d3] }
  | _ => none }
def AirRowsWrongFalsely : Prop := airRowsRow.holds Try.pinned (OpenSpec.ofChange airRowsWrong)

/-- 'waystationlaw18.AirTurns': WHATEVER THE INPUT: true; the input reads as it did. -/
def airTurnsSpec : ChangeSpec := { name := "airTurns", fn := fun _ => fun
  | [d1, d2, d3] => { results := [.lit (.bool true)], args := [d1, d2, d3] }
  | _ => none }
def airTurnsRow : OpenClaim := { program := "ytcfdfimkgehdfaa", sum := "e7da08f91ad1b691705094a3c93045e6f8c41d9183aa942ef89935babff24821", func := "waystation/waystationlaw18.AirTurns", spec := "airTurns", apart := false }
def AirTurnsSaid : Prop := airTurnsRow.holds Try.pinned (OpenSpec.ofChange airTurnsSpec)

/-- ITS FALSE NEIGHBOUR: 'it returns false'. Refute it at one input. -/
def airTurnsWrong : ChangeSpec := { name := "airTurns", fn := fun _ => fun
  | [d1, d2, d3] => { results := [.lit (.bool false)], args := [d1, d2, d3] }
  | _ => none }
def AirTurnsWrongFalsely : Prop := airTurnsRow.holds Try.pinned (OpenSpec.ofChange airTurnsWrong)

/-- 'waystationtop.WholeTalk': WHATEVER THE INPUT: true; the input reads as it did. -/
def wholeTalkSpec : ChangeSpec := { name := "wholeTalk", fn := fun _ => fun
  | [d1, d2] => { results := [.lit (.bool true)], args := [d1, d2] }
  | _ => none }
def wholeTalkRow : OpenClaim := { program := "ytcfdfimkgehdfaa", sum := "e7da08f91ad1b691705094a3c93045e6f8c41d9183aa942ef89935babff24821", func := "waystation/waystationtop.WholeTalk", spec := "wholeTalk", unfollowed := true, recurses := true, apart := false }
def WholeTalkSaid : Prop := wholeTalkRow.holds Try.pinned (OpenSpec.ofChange wholeTalkSpec)

/-- ITS FALSE NEIGHBOUR: 'it returns false'. Refute it at one input. -/
def wholeTalkWrong : ChangeSpec := { name := "wholeTalk", fn := fun _ => fun
  | [d1, d2] => { results := [.lit (.bool false)], args := [d1, d2] }
  | _ => none }
def WholeTalkWrongFalsely : Prop := wholeTalkRow.holds Try.pinned (OpenSpec.ofChange wholeTalkWrong)

/-- 'waystationtop.WholeSpoilt': WHATEVER THE INPUT: true; the input reads as it did. -/
def wholeSpoiltSpec : ChangeSpec := { name := "wholeSpoilt", fn := fun _ => fun
  | [d1, d2, d3] => { results := [.lit (.bool true)], args := [d1, d2, d3] }
  | _ => none }
def wholeSpoiltRow : OpenClaim := { program := "ytcfdfimkgehdfaa", sum := "e7da08f91ad1b691705094a3c93045e6f8c41d9183aa942ef89935babff24821", func := "waystation/waystationtop.WholeSpoilt", spec := "wholeSpoilt", unfollowed := true, recurses := true, apart := false }
def WholeSpoiltSaid : Prop := wholeSpoiltRow.holds Try.pinned (OpenSpec.ofChange wholeSpoiltSpec)

/-- ITS FALSE NEIGHBOUR: 'it returns false'. Refute it at one input. -/
def wholeSpoiltWrong : ChangeSpec := { name := "wholeSpoilt", fn := fun _ => fun
  | [d1, d2, d3] => { results := [.lit (.bool false)], args := [d1, d2, d3] }
  | _ => none }
def WholeSpoiltWrongFalsely : Prop := wholeSpoiltRow.holds Try.pinned (OpenSpec.ofChange wholeSpoiltWrong)

/- THE SECOND FORM. 'bulk': how many values and letters a reading holds, each counted each time it is reached (what is shared counts as often as it is met; a slice's spare places count too). A statement '..UptoSaid' is the law's where the arguments, and the package variables that the reading takes, are together of bulk at most 1048576: NARROWER than '..Said'. Prove '..Said' where nothing that the law and all that it calls make is longer than what came in: it says more and counts as full. Else prove '..UptoSaid'. A law counts once. -/
mutual
def uptoBulk {H : Type} : DataW H → Nat
  | .lit (.string bytes) => bytes.length + 1
  | .lit _ => 1
  | .nil => 1
  | .ptr d => uptoBulk d + 1
  | .slice elems spare => uptoBulkAll elems + uptoBulkAll spare + 1
  | .agg parts => uptoBulkAll parts + 1
  | .iface _ d => uptoBulk d + 1
  | .map entries => uptoBulkEntries entries + 1
  | .held _ => 1
def uptoBulkAll {H : Type} : List (DataW H) → Nat
  | [] => 0
  | d :: r => uptoBulk d + uptoBulkAll r
def uptoBulkEntries {H : Type} : List (Lit × DataW H) → Nat
  | [] => 0
  | x :: r => uptoBulkEntry x + uptoBulkEntries r
def uptoBulkEntry {H : Type} : Lit × DataW H → Nat
  | (.string bytes, d) => bytes.length + uptoBulk d + 1
  | (_, d) => uptoBulk d + 1
 end
def uptoSmall : (H : Type) → List (DataW H) → Bool := fun _ ds => decide (uptoBulkAll ds ≤ 1048576)
def OpenSpec.upto (s : _root_.Go.ChangeSpec) : _root_.Go.OpenSpec := { _root_.Go.OpenSpec.ofChange s with cond := some uptoSmall }

/-- 'waystationlaw18.AirActs', WHERE WHAT IT READS IS OF BULK AT MOST 1048576: true; the input reads as it did. -/
def airActsUptoRow : OpenClaim := { program := "ytcfdfimkgehdfaa", sum := "e7da08f91ad1b691705094a3c93045e6f8c41d9183aa942ef89935babff24821", func := "waystation/waystationlaw18.AirActs", spec := "airActs", apart := false, narrowed := true }
def AirActsUptoSaid : Prop := airActsUptoRow.holds Try.pinned (OpenSpec.upto airActsSpec)

/-- 'waystationlaw18.AirApart', WHERE WHAT IT READS IS OF BULK AT MOST 1048576: true; the input reads as it did. -/
def airApartUptoRow : OpenClaim := { program := "ytcfdfimkgehdfaa", sum := "e7da08f91ad1b691705094a3c93045e6f8c41d9183aa942ef89935babff24821", func := "waystation/waystationlaw18.AirApart", spec := "airApart", apart := false, narrowed := true }
def AirApartUptoSaid : Prop := airApartUptoRow.holds Try.pinned (OpenSpec.upto airApartSpec)

/-- 'waystationlaw18.AirOwn', WHERE WHAT IT READS IS OF BULK AT MOST 1048576: true; the input reads as it did. -/
def airOwnUptoRow : OpenClaim := { program := "ytcfdfimkgehdfaa", sum := "e7da08f91ad1b691705094a3c93045e6f8c41d9183aa942ef89935babff24821", func := "waystation/waystationlaw18.AirOwn", spec := "airOwn", apart := false, narrowed := true }
def AirOwnUptoSaid : Prop := airOwnUptoRow.holds Try.pinned (OpenSpec.upto airOwnSpec)

/-- 'waystationlaw18.AirNobody', WHERE WHAT IT READS IS OF BULK AT MOST 1048576: true; the input reads as it did. -/
def airNobodyUptoRow : OpenClaim := { program := "ytcfdfimkgehdfaa", sum := "e7da08f91ad1b691705094a3c93045e6f8c41d9183aa942ef89935babff24821", func := "waystation/waystationlaw18.AirNobody", spec := "airNobody", apart := false, narrowed := true }
def AirNobodyUptoSaid : Prop := airNobodyUptoRow.holds Try.pinned (OpenSpec.upto airNobodySpec)

/-- 'waystationlaw18.AirRows', WHERE WHAT IT READS IS OF BULK AT MOST 1048576: true; the input reads as it did. -/
def airRowsUptoRow : OpenClaim := { program := "ytcfdfimkgehdfaa", sum := "e7da08f91ad1b691705094a3c93045e6f8c41d9183aa942ef89935babff24821", func := "waystation/waystationlaw18.AirRows", spec := "airRows", apart := false, narrowed := true }
def AirRowsUptoSaid : Prop := airRowsUptoRow.holds Try.pinned (OpenSpec.upto airRowsSpec)

/-- 'waystationlaw18.AirTurns', WHERE WHAT IT READS IS OF BULK AT MOST 1048576: true; the input reads as it did. -/
def airTurnsUptoRow : OpenClaim := { program := "ytcfdfimkgehdfaa", sum := "e7da08f91ad1b691705094a3c93045e6f8c41d9183aa942ef89935babff24821", func := "waystation/waystationlaw18.AirTurns", spec := "airTurns", apart := false, narrowed := true }
def AirTurnsUptoSaid : Prop := airTurnsUptoRow.holds Try.pinned (OpenSpec.upto airTurnsSpec)

/-- 'waystationtop.WholeTalk', WHERE WHAT IT READS IS OF BULK AT MOST 1048576: true; the input reads as it did. -/
def wholeTalkUptoRow : OpenClaim := { program := "ytcfdfimkgehdfaa", sum := "e7da08f91ad1b691705094a3c93045e6f8c41d9183aa942ef89935babff24821", func := "waystation/waystationtop.WholeTalk", spec := "wholeTalk", unfollowed := true, recurses := true, apart := false, narrowed := true }
def WholeTalkUptoSaid : Prop := wholeTalkUptoRow.holds Try.pinned (OpenSpec.upto wholeTalkSpec)

/-- 'waystationtop.WholeSpoilt', WHERE WHAT IT READS IS OF BULK AT MOST 1048576: true; the input reads as it did. -/
def wholeSpoiltUptoRow : OpenClaim := { program := "ytcfdfimkgehdfaa", sum := "e7da08f91ad1b691705094a3c93045e6f8c41d9183aa942ef89935babff24821", func := "waystation/waystationtop.WholeSpoilt", spec := "wholeSpoilt", unfollowed := true, recurses := true, apart := false, narrowed := true }
def WholeSpoiltUptoSaid : Prop := wholeSpoiltUptoRow.holds Try.pinned (OpenSpec.upto wholeSpoiltSpec)

end Rows
end Go.Proofs.Ytcfdfimkgehdfaa
