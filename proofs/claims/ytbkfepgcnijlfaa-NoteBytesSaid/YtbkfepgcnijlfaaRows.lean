/-
  No cell of these rows narrows 'for every input' (looked for: loops, veiled, ifaces, maps, wideKeys, modest, calm, conditions, laid).
  DERIVED. THE GIVEN ROWS OF THIS SEAT. 5 by the template 'for every input the law returns true; each argument reads behind the call as it read before'; 0 by the template 'total and deterministic' (their statements: YtbkfepgcnijlfaaTotals.lean).
  GIVEN WITH THE SEED: the statements are not yours to turn. If you find one false, say at which input.
  Laid BY PROGRAM, IN A SANDBOX (cutbox-rows.mjs): the forced cells as the released guide's own fill.sh prints them over the translation d8c599f5b1182b39… (all of the seat's roots in one cut). By AI agents, Wed Nov 11 2026. No macro, syntax, notation, axiom, sorry.
-/
import Derived.Test.YtbkfepgcnijlfaaChecked
import GoSem.Claim
import GoSem.ClaimJoined
import GoSem.ClaimMapViews
import Derived.JoinedTies
import Derived.KernelRfl
namespace Go.Proofs.Ytbkfepgcnijlfaa
/- THE CELL 'sum', in the pinned program and in every row, IS THE sha256 OF THE DUMP (.gsa) THAT YtbkfepgcnijlfaaProg.lean LOADS. Nothing in Lean hashes anything: it is a label: what it is worth is what the hold of that sum in a sandbox is worth. -/
noncomputable def Try.pinned : Pinned := { name := "ytbkfepgcnijlfaa", sum := "d8c599f5b1182b397869cc51f3bcd2adfa49ffcb7d4fc577e590e41dd96effc8", checked := Try.checked }
namespace Rows
def none {H : Type} : Left H := { results := [], args := [] }

/-- 'waystationlaw17.NoteBytes': WHATEVER THE INPUT: true; the input reads as it did. -/
def noteBytesSpec : ChangeSpec := { name := "noteBytes", fn := fun _ => fun
  | [d1, d2] => { results := [.lit (.bool true)], args := [d1, d2] }
  | _ => none }
def noteBytesRow : OpenClaim := { program := "ytbkfepgcnijlfaa", sum := "d8c599f5b1182b397869cc51f3bcd2adfa49ffcb7d4fc577e590e41dd96effc8", func := "waystation/waystationlaw17.NoteBytes", spec := "noteBytes", unfollowed := true, recurses := true, apart := false }
def NoteBytesSaid : Prop := noteBytesRow.holds Try.pinned (OpenSpec.ofChange noteBytesSpec)

/-- ITS FALSE NEIGHBOUR: 'it returns false'. Refute it at one input. -/
def noteBytesWrong : ChangeSpec := { name := "noteBytes", fn := fun _ => fun
  | [d1, d2] => { results := [.lit (.bool false)], args := [d1, d2] }
  | _ => none }
def NoteBytesWrongFalsely : Prop := noteBytesRow.holds Try.pinned (OpenSpec.ofChange noteBytesWrong)

/-- 'waystationlaw17.NoteBack': WHATEVER THE INPUT: true; the input reads as it did. -/
def noteBackSpec : ChangeSpec := { name := "noteBack", fn := fun _ => fun
  | [d1, d2, d3] => { results := [.lit (.bool true)], args := [d1, d2, d3] }
  | _ => none }
def noteBackRow : OpenClaim := { program := "ytbkfepgcnijlfaa", sum := "d8c599f5b1182b397869cc51f3bcd2adfa49ffcb7d4fc577e590e41dd96effc8", func := "waystation/waystationlaw17.NoteBack", spec := "noteBack", unfollowed := true, recurses := true, apart := false }
def NoteBackSaid : Prop := noteBackRow.holds Try.pinned (OpenSpec.ofChange noteBackSpec)

/-- ITS FALSE NEIGHBOUR: 'it returns false'. Refute it at one input. -/
def noteBackWrong : ChangeSpec := { name := "noteBack", fn := fun _ => fun
  | [d1, d2, d3] => { results := [.lit (.bool false)], args := [d1, d2, d3] }
  | _ => none }
def NoteBackWrongFalsely : Prop := noteBackRow.holds Try.pinned (OpenSpec.ofChange noteBackWrong)

/-- 'waystationlaw17.NoteTurned': WHATEVER THE INPUT: true; the input reads as it did. -/
def noteTurnedSpec : ChangeSpec := { name := "noteTurned", fn := fun _ => fun
  | [d1, d2, d3] => { results := [.lit (.bool true)], args := [d1, d2, d3] }
  | _ => none }
def noteTurnedRow : OpenClaim := { program := "ytbkfepgcnijlfaa", sum := "d8c599f5b1182b397869cc51f3bcd2adfa49ffcb7d4fc577e590e41dd96effc8", func := "waystation/waystationlaw17.NoteTurned", spec := "noteTurned", unfollowed := true, recurses := true, apart := false }
def NoteTurnedSaid : Prop := noteTurnedRow.holds Try.pinned (OpenSpec.ofChange noteTurnedSpec)

/-- ITS FALSE NEIGHBOUR: 'it returns false'. Refute it at one input. -/
def noteTurnedWrong : ChangeSpec := { name := "noteTurned", fn := fun _ => fun
  | [d1, d2, d3] => { results := [.lit (.bool false)], args := [d1, d2, d3] }
  | _ => none }
def NoteTurnedWrongFalsely : Prop := noteTurnedRow.holds Try.pinned (OpenSpec.ofChange noteTurnedWrong)

/-- 'waystationlaw17.NoteKinds': WHATEVER THE INPUT: true; the input reads as it did. -/
def noteKindsSpec : ChangeSpec := { name := "noteKinds", fn := fun _ => fun
  | [d1, d2] => { results := [.lit (.bool true)], args := [d1, d2] }
  | _ => none }
def noteKindsRow : OpenClaim := { program := "ytbkfepgcnijlfaa", sum := "d8c599f5b1182b397869cc51f3bcd2adfa49ffcb7d4fc577e590e41dd96effc8", func := "waystation/waystationlaw17.NoteKinds", spec := "noteKinds", unfollowed := true, recurses := true, apart := false }
def NoteKindsSaid : Prop := noteKindsRow.holds Try.pinned (OpenSpec.ofChange noteKindsSpec)

/-- ITS FALSE NEIGHBOUR: 'it returns false'. Refute it at one input. -/
def noteKindsWrong : ChangeSpec := { name := "noteKinds", fn := fun _ => fun
  | [d1, d2] => { results := [.lit (.bool false)], args := [d1, d2] }
  | _ => none }
def NoteKindsWrongFalsely : Prop := noteKindsRow.holds Try.pinned (OpenSpec.ofChange noteKindsWrong)

/-- 'waystationlaw17.NoteHands': WHATEVER THE INPUT: true; the input reads as it did. -/
def noteHandsSpec : ChangeSpec := { name := "noteHands", fn := fun _ => fun
  | [d1, d2] => { results := [.lit (.bool true)], args := [d1, d2] }
  | _ => none }
def noteHandsRow : OpenClaim := { program := "ytbkfepgcnijlfaa", sum := "d8c599f5b1182b397869cc51f3bcd2adfa49ffcb7d4fc577e590e41dd96effc8", func := "waystation/waystationlaw17.NoteHands", spec := "noteHands", unfollowed := true, recurses := true, apart := false }
def NoteHandsSaid : Prop := noteHandsRow.holds Try.pinned (OpenSpec.ofChange noteHandsSpec)

/-- ITS FALSE NEIGHBOUR: 'it returns false'. Refute it at one input. -/
def noteHandsWrong : ChangeSpec := { name := "noteHands", fn := fun _ => fun
  | [d1, d2] => { results := [.lit (.bool false)], args := [d1, d2] }
  | _ => none }
def NoteHandsWrongFalsely : Prop := noteHandsRow.holds Try.pinned (OpenSpec.ofChange noteHandsWrong)

/- THE SECOND FORM. 'bulk': how many values and letters a reading holds, each counted each time it is reached (what is shared counts as often as it is met; a slice's spare places count too). A statement '..UptoSaid' is the law's where the arguments, and the package variables that the reading takes, are together of bulk at most 1048576: NARROWER than '..Said'. Prove '..Said' where nothing that the law and all that it calls make is longer than what came in: it says more and counts as full. Else prove '..UptoSaid'. A law counts once. -/
mutual
def uptoBulk {H : Type} : DataW H → Nat
  | .lit (.string bytes) => bytes.length + 1
  | .lit _ => 1
  | .nil => 1
  | .ptr d => uptoBulk d + 1
  | .slice elems spare => uptoBulkAll elems + uptoBulkAll spare + 1
  | .agg parts => uptoBulkAll parts + 1
  | .iface _ d => uptoBulk d + 1
  | .map entries => uptoBulkEntries entries + 1
  | .held _ => 1
def uptoBulkAll {H : Type} : List (DataW H) → Nat
  | [] => 0
  | d :: r => uptoBulk d + uptoBulkAll r
def uptoBulkEntries {H : Type} : List (Lit × DataW H) → Nat
  | [] => 0
  | x :: r => uptoBulkEntry x + uptoBulkEntries r
def uptoBulkEntry {H : Type} : Lit × DataW H → Nat
  | (.string bytes, d) => bytes.length + uptoBulk d + 1
  | (_, d) => uptoBulk d + 1
 end
def uptoSmall : (H : Type) → List (DataW H) → Bool := fun _ ds => decide (uptoBulkAll ds ≤ 1048576)
def OpenSpec.upto (s : _root_.Go.ChangeSpec) : _root_.Go.OpenSpec := { _root_.Go.OpenSpec.ofChange s with cond := some uptoSmall }

/-- 'waystationlaw17.NoteBytes', WHERE WHAT IT READS IS OF BULK AT MOST 1048576: true; the input reads as it did. -/
def noteBytesUptoRow : OpenClaim := { program := "ytbkfepgcnijlfaa", sum := "d8c599f5b1182b397869cc51f3bcd2adfa49ffcb7d4fc577e590e41dd96effc8", func := "waystation/waystationlaw17.NoteBytes", spec := "noteBytes", unfollowed := true, recurses := true, apart := false, narrowed := true }
def NoteBytesUptoSaid : Prop := noteBytesUptoRow.holds Try.pinned (OpenSpec.upto noteBytesSpec)

/-- 'waystationlaw17.NoteBack', WHERE WHAT IT READS IS OF BULK AT MOST 1048576: true; the input reads as it did. -/
def noteBackUptoRow : OpenClaim := { program := "ytbkfepgcnijlfaa", sum := "d8c599f5b1182b397869cc51f3bcd2adfa49ffcb7d4fc577e590e41dd96effc8", func := "waystation/waystationlaw17.NoteBack", spec := "noteBack", unfollowed := true, recurses := true, apart := false, narrowed := true }
def NoteBackUptoSaid : Prop := noteBackUptoRow.holds Try.pinned (OpenSpec.upto noteBackSpec)

/-- 'waystationlaw17.NoteTurned', WHERE WHAT IT READS IS OF BULK AT MOST 1048576: true; the input reads as it did. -/
def noteTurnedUptoRow : OpenClaim := { program := "ytbkfepgcnijlfaa", sum := "d8c599f5b1182b397869cc51f3bcd2adfa49ffcb7d4fc577e590e41dd96effc8", func := "waystation/waystationlaw17.NoteTurned", spec := "noteTurned", unfollowed := true, recurses := true, apart := false, narrowed := true }
def NoteTurnedUptoSaid : Prop := noteTurnedUptoRow.holds Try.pinned (OpenSpec.upto noteTurnedSpec)

/-- 'waystationlaw17.NoteKinds', WHERE WHAT IT READS IS OF BULK AT MOST 1048576: true; the input reads as it did. -/
def noteKindsUptoRow : OpenClaim := { program := "ytbkfepgcnijlfaa", sum := "d8c599f5b1182b397869cc51f3bcd2adfa49ffcb7d4fc577e590e41dd96effc8", func := "waystation/waystationlaw17.NoteKinds", spec := "noteKinds", unfollowed := true, recurses := true, apart := false, narrowed := true }
def NoteKindsUptoSaid : Prop := noteKindsUptoRow.holds Try.pinned (OpenSpec.upto noteKindsSpec)

/-- 'waystationlaw17.NoteHands', WHERE WHAT IT READS IS OF BULK AT MOST 1048576: true; the input reads as it did. -/
def noteHandsUptoRow : OpenClaim := { program := "ytbkfepgcnijlfaa", sum := "d8c599f5b1182b397869cc51f3bcd2adfa49ffcb7d4fc577e590e41dd96effc8", func := "waystation/waystationlaw17.NoteHands", spec := "noteHands", unfollowed := true, recurses := true, apart := false, narrowed := true }
def NoteHandsUptoSaid : Prop := noteHandsUptoRow.holds Try.pinned (OpenSpec.upto noteHandsSpec)

end Rows
end Go.Proofs.Ytbkfepgcnijlfaa
