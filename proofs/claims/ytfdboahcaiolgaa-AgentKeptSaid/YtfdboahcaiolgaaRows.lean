/-
  No cell of these rows narrows 'for every input' (looked for: loops, veiled, ifaces, maps, wideKeys, modest, calm, conditions, laid).
  DERIVED. THE GIVEN ROWS OF THIS SEAT. 6 by the template 'for every input the law returns true; each argument reads behind the call as it read before'; 0 by the template 'total and deterministic' (their statements: YtfdboahcaiolgaaTotals.lean).
  GIVEN WITH THE SEED: the statements are not yours to turn. If you find one false, say at which input.
  Laid BY PROGRAM, IN A SANDBOX (cutbox-rows.mjs): the forced cells as the released guide's own fill.sh prints them over the translation ae1da8fccb05b934… (all of the seat's roots in one cut). By AI agents, Wed Nov 11 2026. No macro, syntax, notation, axiom, sorry.
-/
import Derived.Test.YtfdboahcaiolgaaChecked
import GoSem.Claim
import GoSem.ClaimJoined
import GoSem.ClaimMapViews
import Derived.JoinedTies
import Derived.KernelRfl
namespace Go.Proofs.Ytfdboahcaiolgaa
/- THE CELL 'sum', in the pinned program and in every row, IS THE sha256 OF THE DUMP (.gsa) THAT YtfdboahcaiolgaaProg.lean LOADS. Nothing in Lean hashes anything: it is a label: what it is worth is what the hold of that sum in a sandbox is worth. -/
noncomputable def Try.pinned : Pinned := { name := "ytfdboahcaiolgaa", sum := "ae1da8fccb05b93428fd9be5c37e2b28364aae039e98fedd978e2c7434550b81", checked := Try.checked }
namespace Rows
def none {H : Type} : Left H := { results := [], args := [] }

/-- 'waystationlaw19.AgentPacks': WHATEVER THE INPUT: true; the input reads as it did. -/
def agentPacksSpec : ChangeSpec := { name := "agentPacks", fn := fun _ => fun
  | [d1, d2] => { results := [.lit (.bool true)], args := [d1, d2] }
  | _ => none }
def agentPacksRow : OpenClaim := { program := "ytfdboahcaiolgaa", sum := "ae1da8fccb05b93428fd9be5c37e2b28364aae039e98fedd978e2c7434550b81", func := "waystation/waystationlaw19.AgentPacks", spec := "agentPacks", inPlace := ["internal/abi.NoEscape", "internal/bytealg.MakeNoZero", "slices.overlaps[waystation/agent.Ballot]"], unfollowed := true, recurses := true, apart := false }
def AgentPacksSaid : Prop := agentPacksRow.holds Try.pinned (OpenSpec.ofChange agentPacksSpec)

/-- ITS FALSE NEIGHBOUR: 'it returns false'. Refute it at one input. -/
def agentPacksWrong : ChangeSpec := { name := "agentPacks", fn := fun _ => fun
  | [d1, d2] => { results := [.lit (.bool false)], args := [d1, d2] }
  | _ => none }
def AgentPacksWrongFalsely : Prop := agentPacksRow.holds Try.pinned (OpenSpec.ofChange agentPacksWrong)

/-- 'waystationlaw19.AgentShips': WHATEVER THE INPUT: true; the input reads as it did. -/
def agentShipsSpec : ChangeSpec := { name := "agentShips", fn := fun _ => fun
  | [d1, d2, d3] => { results := [.lit (.bool true)], args := [d1, d2, d3] }
  | _ => none }
def agentShipsRow : OpenClaim := { program := "ytfdboahcaiolgaa", sum := "ae1da8fccb05b93428fd9be5c37e2b28364aae039e98fedd978e2c7434550b81", func := "waystation/waystationlaw19.AgentShips", spec := "agentShips", inPlace := ["internal/abi.NoEscape", "internal/bytealg.MakeNoZero", "slices.overlaps[waystation/agent.Ballot]"], unfollowed := true, recurses := true, apart := false }
def AgentShipsSaid : Prop := agentShipsRow.holds Try.pinned (OpenSpec.ofChange agentShipsSpec)

/-- ITS FALSE NEIGHBOUR: 'it returns false'. Refute it at one input. -/
def agentShipsWrong : ChangeSpec := { name := "agentShips", fn := fun _ => fun
  | [d1, d2, d3] => { results := [.lit (.bool false)], args := [d1, d2, d3] }
  | _ => none }
def AgentShipsWrongFalsely : Prop := agentShipsRow.holds Try.pinned (OpenSpec.ofChange agentShipsWrong)

/-- 'waystationlaw19.AgentKept': WHATEVER THE INPUT: true; the input reads as it did. -/
def agentKeptSpec : ChangeSpec := { name := "agentKept", fn := fun _ => fun
  | [d1, d2, d3] => { results := [.lit (.bool true)], args := [d1, d2, d3] }
  | _ => none }
def agentKeptRow : OpenClaim := { program := "ytfdboahcaiolgaa", sum := "ae1da8fccb05b93428fd9be5c37e2b28364aae039e98fedd978e2c7434550b81", func := "waystation/waystationlaw19.AgentKept", spec := "agentKept", inPlace := ["internal/abi.NoEscape", "internal/bytealg.MakeNoZero", "slices.overlaps[waystation/agent.Ballot]"], unfollowed := true, recurses := true, apart := false }
def AgentKeptSaid : Prop := agentKeptRow.holds Try.pinned (OpenSpec.ofChange agentKeptSpec)

/-- ITS FALSE NEIGHBOUR: 'it returns false'. Refute it at one input. -/
def agentKeptWrong : ChangeSpec := { name := "agentKept", fn := fun _ => fun
  | [d1, d2, d3] => { results := [.lit (.bool false)], args := [d1, d2, d3] }
  | _ => none }
def AgentKeptWrongFalsely : Prop := agentKeptRow.holds Try.pinned (OpenSpec.ofChange agentKeptWrong)

/-- 'waystationlaw19.AgentFirst': WHATEVER THE INPUT: true; the input reads as it did. -/
def agentFirstSpec : ChangeSpec := { name := "agentFirst", fn := fun _ => fun
  | [d1, d2] => { results := [.lit (.bool true)], args := [d1, d2] }
  | _ => none }
def agentFirstRow : OpenClaim := { program := "ytfdboahcaiolgaa", sum := "ae1da8fccb05b93428fd9be5c37e2b28364aae039e98fedd978e2c7434550b81", func := "waystation/waystationlaw19.AgentFirst", spec := "agentFirst", inPlace := ["internal/abi.NoEscape", "internal/bytealg.MakeNoZero", "slices.overlaps[waystation/agent.Ballot]"], unfollowed := true, recurses := true, apart := false }
def AgentFirstSaid : Prop := agentFirstRow.holds Try.pinned (OpenSpec.ofChange agentFirstSpec)

/-- ITS FALSE NEIGHBOUR: 'it returns false'. Refute it at one input. -/
def agentFirstWrong : ChangeSpec := { name := "agentFirst", fn := fun _ => fun
  | [d1, d2] => { results := [.lit (.bool false)], args := [d1, d2] }
  | _ => none }
def AgentFirstWrongFalsely : Prop := agentFirstRow.holds Try.pinned (OpenSpec.ofChange agentFirstWrong)

/-- 'waystationlaw19.AgentAny': WHATEVER THE INPUT: true; the input reads as it did. -/
def agentAnySpec : ChangeSpec := { name := "agentAny", fn := fun _ => fun
  | [d1, d2] => { results := [.lit (.bool true)], args := [d1, d2] }
  | _ => none }
def agentAnyRow : OpenClaim := { program := "ytfdboahcaiolgaa", sum := "ae1da8fccb05b93428fd9be5c37e2b28364aae039e98fedd978e2c7434550b81", func := "waystation/waystationlaw19.AgentAny", spec := "agentAny", inPlace := ["internal/abi.NoEscape", "internal/bytealg.MakeNoZero", "slices.overlaps[waystation/agent.Ballot]"], unfollowed := true, recurses := true, apart := false }
def AgentAnySaid : Prop := agentAnyRow.holds Try.pinned (OpenSpec.ofChange agentAnySpec)

/-- ITS FALSE NEIGHBOUR: 'it returns false'. Refute it at one input. -/
def agentAnyWrong : ChangeSpec := { name := "agentAny", fn := fun _ => fun
  | [d1, d2] => { results := [.lit (.bool false)], args := [d1, d2] }
  | _ => none }
def AgentAnyWrongFalsely : Prop := agentAnyRow.holds Try.pinned (OpenSpec.ofChange agentAnyWrong)

/-- 'waystationlaw19.AgentAlone': WHATEVER THE INPUT: true; the input reads as it did. -/
def agentAloneSpec : ChangeSpec := { name := "agentAlone", fn := fun _ => fun
  | [d1, d2, d3] => { results := [.lit (.bool true)], args := [d1, d2, d3] }
  | _ => none }
def agentAloneRow : OpenClaim := { program := "ytfdboahcaiolgaa", sum := "ae1da8fccb05b93428fd9be5c37e2b28364aae039e98fedd978e2c7434550b81", func := "waystation/waystationlaw19.AgentAlone", spec := "agentAlone", inPlace := ["internal/abi.NoEscape", "internal/bytealg.MakeNoZero", "slices.overlaps[waystation/agent.Ballot]"], unfollowed := true, recurses := true, apart := false }
def AgentAloneSaid : Prop := agentAloneRow.holds Try.pinned (OpenSpec.ofChange agentAloneSpec)

/-- ITS FALSE NEIGHBOUR: 'it returns false'. Refute it at one input. -/
def agentAloneWrong : ChangeSpec := { name := "agentAlone", fn := fun _ => fun
  | [d1, d2, d3] => { results := [.lit (.bool false)], args := [d1, d2, d3] }
  | _ => none }
def AgentAloneWrongFalsely : Prop := agentAloneRow.holds Try.pinned (OpenSpec.ofChange agentAloneWrong)

/- THE SECOND FORM. 'bulk': how many values and letters a reading holds, each counted each time it is reached (what is shared counts as often as it is met; a slice's spare places count too). A statement '..UptoSaid' is the law's where the arguments, and the package variables that the reading takes, are together of bulk at most 1048576: NARROWER than '..Said'. Prove '..Said' where nothing that the law and all that it calls make is longer than what came in: it says more and counts as full. Else prove '..UptoSaid'. A law counts once. -/
mutual
def uptoBulk {H : Type} : DataW H → Nat
  | .lit (.string bytes) => bytes.length + 1
  | .lit _ => 1
  | .nil => 1
  | .ptr d => uptoBulk d + 1
  | .slice elems spare => uptoBulkAll elems + uptoBulkAll spare + 1
  | .agg parts => uptoBulkAll parts + 1
  | .iface _ d => uptoBulk d + 1
  | .map entries => uptoBulkEntries entries + 1
  | .held _ => 1
def uptoBulkAll {H : Type} : List (DataW H) → Nat
  | [] => 0
  | d :: r => uptoBulk d + uptoBulkAll r
def uptoBulkEntries {H : Type} : List (Lit × DataW H) → Nat
  | [] => 0
  | x :: r => uptoBulkEntry x + uptoBulkEntries r
def uptoBulkEntry {H : Type} : Lit × DataW H → Nat
  | (.string bytes, d) => bytes.length + uptoBulk d + 1
  | (_, d) => uptoBulk d + 1
 end
def uptoSmall : (H : Type) → List (DataW H) → Bool := fun _ ds => decide (uptoBulkAll ds ≤ 1048576)
def OpenSpec.upto (s : _root_.Go.ChangeSpec) : _root_.Go.OpenSpec := { _root_.Go.OpenSpec.ofChange s with cond := some uptoSmall }

/-- 'waystationlaw19.AgentPacks', WHERE WHAT IT READS IS OF BULK AT MOST 1048576: true; the input reads as it did. -/
def agentPacksUptoRow : OpenClaim := { program := "ytfdboahcaiolgaa", sum := "ae1da8fccb05b93428fd9be5c37e2b28364aae039e98fedd978e2c7434550b81", func := "waystation/waystationlaw19.AgentPacks", spec := "agentPacks", inPlace := ["internal/abi.NoEscape", "internal/bytealg.MakeNoZero", "slices.overlaps[waystation/agent.Ballot]"], unfollowed := true, recurses := true, apart := false, narrowed := true }
def AgentPacksUptoSaid : Prop := agentPacksUptoRow.holds Try.pinned (OpenSpec.upto agentPacksSpec)

/-- 'waystationlaw19.AgentShips', WHERE WHAT IT READS IS OF BULK AT MOST 1048576: true; the input reads as it did. -/
def agentShipsUptoRow : OpenClaim := { program := "ytfdboahcaiolgaa", sum := "ae1da8fccb05b93428fd9be5c37e2b28364aae039e98fedd978e2c7434550b81", func := "waystation/waystationlaw19.AgentShips", spec := "agentShips", inPlace := ["internal/abi.NoEscape", "internal/bytealg.MakeNoZero", "slices.overlaps[waystation/agent.Ballot]"], unfollowed := true, recurses := true, apart := false, narrowed := true }
def AgentShipsUptoSaid : Prop := agentShipsUptoRow.holds Try.pinned (OpenSpec.upto agentShipsSpec)

/-- 'waystationlaw19.AgentKept', WHERE WHAT IT READS IS OF BULK AT MOST 1048576: true; the input reads as it did. -/
def agentKeptUptoRow : OpenClaim := { program := "ytfdboahcaiolgaa", sum := "ae1da8fccb05b93428fd9be5c37e2b28364aae039e98fedd978e2c7434550b81", func := "waystation/waystationlaw19.AgentKept", spec := "agentKept", inPlace := ["internal/abi.NoEscape", "internal/bytealg.MakeNoZero", "slices.overlaps[waystation/agent.Ballot]"], unfollowed := true, recurses := true, apart := false, narrowed := true }
def AgentKeptUptoSaid : Prop := agentKeptUptoRow.holds Try.pinned (OpenSpec.upto agentKeptSpec)

/-- 'waystationlaw19.AgentFirst', WHERE WHAT IT READS IS OF BULK AT MOST 1048576: true; the input reads as it did. -/
def agentFirstUptoRow : OpenClaim := { program := "ytfdboahcaiolgaa", sum := "ae1da8fccb05b93428fd9be5c37e2b28364aae039e98fedd978e2c7434550b81", func := "waystation/waystationlaw19.AgentFirst", spec := "agentFirst", inPlace := ["internal/abi.NoEscape", "internal/bytealg.MakeNoZero", "slices.overlaps[waystation/agent.Ballot]"], unfollowed := true, recurses := true, apart := false, narrowed := true }
def AgentFirstUptoSaid : Prop := agentFirstUptoRow.holds Try.pinned (OpenSpec.upto agentFirstSpec)

/-- 'waystationlaw19.AgentAny', WHERE WHAT IT READS IS OF BULK AT MOST 1048576: true; the input reads as it did. -/
def agentAnyUptoRow : OpenClaim := { program := "ytfdboahcaiolgaa", sum := "ae1da8fccb05b93428fd9be5c37e2b28364aae039e98fedd978e2c7434550b81", func := "waystation/waystationlaw19.AgentAny", spec := "agentAny", inPlace := ["internal/abi.NoEscape", "internal/bytealg.MakeNoZero", "slices.overlaps[waystation/agent.Ballot]"], unfollowed := true, recurses := true, apart := false, narrowed := true }
def AgentAnyUptoSaid : Prop := agentAnyUptoRow.holds Try.pinned (OpenSpec.upto agentAnySpec)

/-- 'waystationlaw19.AgentAlone', WHERE WHAT IT READS IS OF BULK AT MOST 1048576: true; the input reads as it did. -/
def agentAloneUptoRow : OpenClaim := { program := "ytfdboahcaiolgaa", sum := "ae1da8fccb05b93428fd9be5c37e2b28364aae039e98fedd978e2c7434550b81", func := "waystation/waystationlaw19.AgentAlone", spec := "agentAlone", inPlace := ["internal/abi.NoEscape", "internal/bytealg.MakeNoZero", "slices.overlaps[waystation/agent.Ballot]"], unfollowed := true, recurses := true, apart := false, narrowed := true }
def AgentAloneUptoSaid : Prop := agentAloneUptoRow.holds Try.pinned (OpenSpec.upto agentAloneSpec)

end Rows
end Go.Proofs.Ytfdboahcaiolgaa
