/-
  No cell of these rows narrows 'for every input' (looked for: loops, veiled, ifaces, maps, wideKeys, modest, calm, conditions, laid).
  DERIVED. THE GIVEN ROWS OF THIS SEAT. 10 by the template 'for every input the law returns true; each argument reads behind the call as it read before'; 0 by the template 'total and deterministic' (their statements: YtealcccjnmfkcaaTotals.lean).
  GIVEN WITH THE SEED: the statements are not yours to turn. If you find one false, say at which input.
  Laid BY PROGRAM, IN A SANDBOX (cutbox-rows.mjs): the forced cells as the released guide's own fill.sh prints them over the translation 0b2dfbe624bb44be… (all of the seat's roots in one cut). By AI agents, Wed Nov 11 2026. No macro, syntax, notation, axiom, sorry.
-/
import Derived.Test.YtealcccjnmfkcaaChecked
import GoSem.Claim
import GoSem.ClaimJoined
import GoSem.ClaimMapViews
import Derived.JoinedTies
import Derived.KernelRfl
namespace Go.Proofs.Ytealcccjnmfkcaa
/- THE CELL 'sum', in the pinned program and in every row, IS THE sha256 OF THE DUMP (.gsa) THAT YtealcccjnmfkcaaProg.lean LOADS. Nothing in Lean hashes anything: it is a label: what it is worth is what the hold of that sum in a sandbox is worth. -/
noncomputable def Try.pinned : Pinned := { name := "ytealcccjnmfkcaa", sum := "0b2dfbe624bb44be09a2469557e4f33f7d353f08cf672b7015f233fd57366884", checked := Try.checked }
namespace Rows
def none {H : Type} : Left H := { results := [], args := [] }

/-- 'waystationlaw10.SiteActs': WHATEVER THE INPUT: true; the input reads as it did. -/
def siteActsSpec : ChangeSpec := { name := "siteActs", fn := fun _ => fun
  | [d] => { results := [.lit (.bool true)], args := [d] }
  | _ => none }
def siteActsRow : OpenClaim := { program := "ytealcccjnmfkcaa", sum := "0b2dfbe624bb44be09a2469557e4f33f7d353f08cf672b7015f233fd57366884", func := "waystation/waystationlaw10.SiteActs", spec := "siteActs", unfollowed := true, recurses := true, apart := false }
def SiteActsSaid : Prop := siteActsRow.holds Try.pinned (OpenSpec.ofChange siteActsSpec)

/-- ITS FALSE NEIGHBOUR: 'it returns false'. Refute it at one input. -/
def siteActsWrong : ChangeSpec := { name := "siteActs", fn := fun _ => fun
  | [d] => { results := [.lit (.bool false)], args := [d] }
  | _ => none }
def SiteActsWrongFalsely : Prop := siteActsRow.holds Try.pinned (OpenSpec.ofChange siteActsWrong)

/-- 'waystationlaw10.SiteAgain': WHATEVER THE INPUT: true; the input reads as it did. -/
def siteAgainSpec : ChangeSpec := { name := "siteAgain", fn := fun _ => fun
  | [d1, d2] => { results := [.lit (.bool true)], args := [d1, d2] }
  | _ => none }
def siteAgainRow : OpenClaim := { program := "ytealcccjnmfkcaa", sum := "0b2dfbe624bb44be09a2469557e4f33f7d353f08cf672b7015f233fd57366884", func := "waystation/waystationlaw10.SiteAgain", spec := "siteAgain", unfollowed := true, recurses := true, apart := false }
def SiteAgainSaid : Prop := siteAgainRow.holds Try.pinned (OpenSpec.ofChange siteAgainSpec)

/-- ITS FALSE NEIGHBOUR: 'it returns false'. Refute it at one input. -/
def siteAgainWrong : ChangeSpec := { name := "siteAgain", fn := fun _ => fun
  | [d1, d2] => { results := [.lit (.bool false)], args := [d1, d2] }
  | _ => none }
def SiteAgainWrongFalsely : Prop := siteAgainRow.holds Try.pinned (OpenSpec.ofChange siteAgainWrong)

/-- 'waystationlaw10.SiteReplays': WHATEVER THE INPUT: true; the input reads as it did. -/
def siteReplaysSpec : ChangeSpec := { name := "siteReplays", fn := fun _ => fun
  | [d] => { results := [.lit (.bool true)], args := [d] }
  | _ => none }
def siteReplaysRow : OpenClaim := { program := "ytealcccjnmfkcaa", sum := "0b2dfbe624bb44be09a2469557e4f33f7d353f08cf672b7015f233fd57366884", func := "waystation/waystationlaw10.SiteReplays", spec := "siteReplays", unfollowed := true, recurses := true, apart := false }
def SiteReplaysSaid : Prop := siteReplaysRow.holds Try.pinned (OpenSpec.ofChange siteReplaysSpec)

/-- ITS FALSE NEIGHBOUR: 'it returns false'. Refute it at one input. -/
def siteReplaysWrong : ChangeSpec := { name := "siteReplays", fn := fun _ => fun
  | [d] => { results := [.lit (.bool false)], args := [d] }
  | _ => none }
def SiteReplaysWrongFalsely : Prop := siteReplaysRow.holds Try.pinned (OpenSpec.ofChange siteReplaysWrong)

/-- 'waystationlaw10.SiteSums': WHATEVER THE INPUT: true; the input reads as it did. -/
def siteSumsSpec : ChangeSpec := { name := "siteSums", fn := fun _ => fun
  | [d] => { results := [.lit (.bool true)], args := [d] }
  | _ => none }
def siteSumsRow : OpenClaim := { program := "ytealcccjnmfkcaa", sum := "0b2dfbe624bb44be09a2469557e4f33f7d353f08cf672b7015f233fd57366884", func := "waystation/waystationlaw10.SiteSums", spec := "siteSums", unfollowed := true, recurses := true, apart := false }
def SiteSumsSaid : Prop := siteSumsRow.holds Try.pinned (OpenSpec.ofChange siteSumsSpec)

/-- ITS FALSE NEIGHBOUR: 'it returns false'. Refute it at one input. -/
def siteSumsWrong : ChangeSpec := { name := "siteSums", fn := fun _ => fun
  | [d] => { results := [.lit (.bool false)], args := [d] }
  | _ => none }
def SiteSumsWrongFalsely : Prop := siteSumsRow.holds Try.pinned (OpenSpec.ofChange siteSumsWrong)

/-- 'waystationlaw10.SiteReads': WHATEVER THE INPUT: true; the input reads as it did. -/
def siteReadsSpec : ChangeSpec := { name := "siteReads", fn := fun _ => fun
  | [d1, d2, d3] => { results := [.lit (.bool true)], args := [d1, d2, d3] }
  | _ => none }
def siteReadsRow : OpenClaim := { program := "ytealcccjnmfkcaa", sum := "0b2dfbe624bb44be09a2469557e4f33f7d353f08cf672b7015f233fd57366884", func := "waystation/waystationlaw10.SiteReads", spec := "siteReads", unfollowed := true, recurses := true, apart := false }
def SiteReadsSaid : Prop := siteReadsRow.holds Try.pinned (OpenSpec.ofChange siteReadsSpec)

/-- ITS FALSE NEIGHBOUR: 'it returns false'. Refute it at one input. -/
def siteReadsWrong : ChangeSpec := { name := "siteReads", fn := fun _ => fun
  | [d1, d2, d3] => { results := [.lit (.bool false)], args := [d1, d2, d3] }
  | _ => none }
def SiteReadsWrongFalsely : Prop := siteReadsRow.holds Try.pinned (OpenSpec.ofChange siteReadsWrong)

/-- 'waystationlaw10.SiteNobody': WHATEVER THE INPUT: true; the input reads as it did. -/
def siteNobodySpec : ChangeSpec := { name := "siteNobody", fn := fun _ => fun
  | [d1, d2] => { results := [.lit (.bool true)], args := [d1, d2] }
  | _ => none }
def siteNobodyRow : OpenClaim := { program := "ytealcccjnmfkcaa", sum := "0b2dfbe624bb44be09a2469557e4f33f7d353f08cf672b7015f233fd57366884", func := "waystation/waystationlaw10.SiteNobody", spec := "siteNobody", unfollowed := true, recurses := true, apart := false }
def SiteNobodySaid : Prop := siteNobodyRow.holds Try.pinned (OpenSpec.ofChange siteNobodySpec)

/-- ITS FALSE NEIGHBOUR: 'it returns false'. Refute it at one input. -/
def siteNobodyWrong : ChangeSpec := { name := "siteNobody", fn := fun _ => fun
  | [d1, d2] => { results := [.lit (.bool false)], args := [d1, d2] }
  | _ => none }
def SiteNobodyWrongFalsely : Prop := siteNobodyRow.holds Try.pinned (OpenSpec.ofChange siteNobodyWrong)

/-- 'waystationlaw10.SiteAlone': WHATEVER THE INPUT: true; the input reads as it did. -/
def siteAloneSpec : ChangeSpec := { name := "siteAlone", fn := fun _ => fun
  | [d1, d2] => { results := [.lit (.bool true)], args := [d1, d2] }
  | _ => none }
def siteAloneRow : OpenClaim := { program := "ytealcccjnmfkcaa", sum := "0b2dfbe624bb44be09a2469557e4f33f7d353f08cf672b7015f233fd57366884", func := "waystation/waystationlaw10.SiteAlone", spec := "siteAlone", unfollowed := true, recurses := true, apart := false }
def SiteAloneSaid : Prop := siteAloneRow.holds Try.pinned (OpenSpec.ofChange siteAloneSpec)

/-- ITS FALSE NEIGHBOUR: 'it returns false'. Refute it at one input. -/
def siteAloneWrong : ChangeSpec := { name := "siteAlone", fn := fun _ => fun
  | [d1, d2] => { results := [.lit (.bool false)], args := [d1, d2] }
  | _ => none }
def SiteAloneWrongFalsely : Prop := siteAloneRow.holds Try.pinned (OpenSpec.ofChange siteAloneWrong)

/-- 'waystationlaw10.SiteOwn': WHATEVER THE INPUT: true; the input reads as it did. -/
def siteOwnSpec : ChangeSpec := { name := "siteOwn", fn := fun _ => fun
  | [d1, d2, d3] => { results := [.lit (.bool true)], args := [d1, d2, d3] }
  | _ => none }
def siteOwnRow : OpenClaim := { program := "ytealcccjnmfkcaa", sum := "0b2dfbe624bb44be09a2469557e4f33f7d353f08cf672b7015f233fd57366884", func := "waystation/waystationlaw10.SiteOwn", spec := "siteOwn", unfollowed := true, recurses := true, apart := false }
def SiteOwnSaid : Prop := siteOwnRow.holds Try.pinned (OpenSpec.ofChange siteOwnSpec)

/-- ITS FALSE NEIGHBOUR: 'it returns false'. Refute it at one input. -/
def siteOwnWrong : ChangeSpec := { name := "siteOwn", fn := fun _ => fun
  | [d1, d2, d3] => { results := [.lit (.bool false)], args := [d1, d2, d3] }
  | _ => none }
def SiteOwnWrongFalsely : Prop := siteOwnRow.holds Try.pinned (OpenSpec.ofChange siteOwnWrong)

/-- 'waystationlaw10.SiteLogs': WHATEVER THE INPUT: true; the input reads as it did. -/
def siteLogsSpec : ChangeSpec := { name := "siteLogs", fn := fun _ => fun
  | [d] => { results := [.lit (.bool true)], args := [d] }
  | _ => none }
def siteLogsRow : OpenClaim := { program := "ytealcccjnmfkcaa", sum := "0b2dfbe624bb44be09a2469557e4f33f7d353f08cf672b7015f233fd57366884", func := "waystation/waystationlaw10.SiteLogs", spec := "siteLogs", unfollowed := true, recurses := true, apart := false }
def SiteLogsSaid : Prop := siteLogsRow.holds Try.pinned (OpenSpec.ofChange siteLogsSpec)

/-- ITS FALSE NEIGHBOUR: 'it returns false'. Refute it at one input. -/
def siteLogsWrong : ChangeSpec := { name := "siteLogs", fn := fun _ => fun
  | [d] => { results := [.lit (.bool false)], args := [d] }
  | _ => none }
def SiteLogsWrongFalsely : Prop := siteLogsRow.holds Try.pinned (OpenSpec.ofChange siteLogsWrong)

/-- 'waystationtop.WholeLogged': WHATEVER THE INPUT: true; the input reads as it did. -/
def wholeLoggedSpec : ChangeSpec := { name := "wholeLogged", fn := fun _ => fun
  | [d1, d2] => { results := [.lit (.bool true)], args := [d1, d2] }
  | _ => none }
def wholeLoggedRow : OpenClaim := { program := "ytealcccjnmfkcaa", sum := "0b2dfbe624bb44be09a2469557e4f33f7d353f08cf672b7015f233fd57366884", func := "waystation/waystationtop.WholeLogged", spec := "wholeLogged", unfollowed := true, recurses := true, apart := false }
def WholeLoggedSaid : Prop := wholeLoggedRow.holds Try.pinned (OpenSpec.ofChange wholeLoggedSpec)

/-- ITS FALSE NEIGHBOUR: 'it returns false'. Refute it at one input. -/
def wholeLoggedWrong : ChangeSpec := { name := "wholeLogged", fn := fun _ => fun
  | [d1, d2] => { results := [.lit (.bool false)], args := [d1, d2] }
  | _ => none }
def WholeLoggedWrongFalsely : Prop := wholeLoggedRow.holds Try.pinned (OpenSpec.ofChange wholeLoggedWrong)

/- THE SECOND FORM. 'bulk': how many values and letters a reading holds, each counted each time it is reached (what is shared counts as often as it is met; a slice's spare places count too). A statement '..UptoSaid' is the law's where the arguments, and the package variables that the reading takes, are together of bulk at most 1048576: NARROWER than '..Said'. Prove '..Said' where nothing that the law and all that it calls make is longer than what came in: it says more and counts as full. Else prove '..UptoSaid'. A law counts once. -/
mutual
def uptoBulk {H : Type} : DataW H → Nat
  | .lit (.string bytes) => bytes.length + 1
  | .lit _ => 1
  | .nil => 1
  | .ptr d => uptoBulk d + 1
  | .slice elems spare => uptoBulkAll elems + uptoBulkAll spare + 1
  | .agg parts => uptoBulkAll parts + 1
  | .iface _ d => uptoBulk d + 1
  | .map entries => uptoBulkEntries entries + 1
  | .held _ => 1
def uptoBulkAll {H : Type} : List (DataW H) → Nat
  | [] => 0
  | d :: r => uptoBulk d + uptoBulkAll r
def uptoBulkEntries {H : Type} : List (Lit × DataW H) → Nat
  | [] => 0
  | x :: r => uptoBulkEntry x + uptoBulkEntries r
def uptoBulkEntry {H : Type} : Lit × DataW H → Nat
  | (.string bytes, d) => bytes.length + uptoBulk d + 1
  | (_, d) => uptoBulk d + 1
 end
def uptoSmall : (H : Type) → List (DataW H) → Bool := fun _ ds => decide (uptoBulkAll ds ≤ 1048576)
def OpenSpec.upto (s : _root_.Go.ChangeSpec) : _root_.Go.OpenSpec := { _root_.Go.OpenSpec.ofChange s with cond := some uptoSmall }

/-- 'waystationlaw10.SiteActs', WHERE WHAT IT READS IS OF BULK AT MOST 1048576: true; the input reads as it did. -/
def siteActsUptoRow : OpenClaim := { program := "ytealcccjnmfkcaa", sum := "0b2dfbe624bb44be09a2469557e4f33f7d353f08cf672b7015f233fd57366884", func := "waystation/waystationlaw10.SiteActs", spec := "siteActs", unfollowed := true, recurses := true, apart := false, narrowed := true }
def SiteActsUptoSaid : Prop := siteActsUptoRow.holds Try.pinned (OpenSpec.upto siteActsSpec)

/-- 'waystationlaw10.SiteAgain', WHERE WHAT IT READS IS OF BULK AT MOST 1048576: true; the input reads as it did. -/
def siteAgainUptoRow : OpenClaim := { program := "ytealcccjnmfkcaa", sum := "0b2dfbe624bb44be09a2469557e4f33f7d353f08cf672b7015f233fd57366884", func := "waystation/waystationlaw10.SiteAgain", spec := "siteAgain", unfollowed := true, recurses := true, apart := false, narrowed := true }
def SiteAgainUptoSaid : Prop := siteAgainUptoRow.holds Try.pinned (OpenSpec.upto siteAgainSpec)

/-- 'waystationlaw10.SiteReplays', WHERE WHAT IT READS IS OF BULK AT MOST 1048576: true; the input reads as it did. -/
def siteReplaysUptoRow : OpenClaim := { program := "ytealcccjnmfkcaa", sum := "0b2dfbe624bb44be09a2469557e4f33f7d353f08cf672b7015f233fd57366884", func := "waystation/waystationlaw10.SiteReplays", spec := "siteReplays", unfollowed := true, recurses := true, apart := false, narrowed := true }
def SiteReplaysUptoSaid : Prop := siteReplaysUptoRow.holds Try.pinned (OpenSpec.upto siteReplaysSpec)

/-- 'waystationlaw10.SiteSums', WHERE WHAT IT READS IS OF BULK AT MOST 1048576: true; the input reads as it did. -/
def siteSumsUptoRow : OpenClaim := { program := "ytealcccjnmfkcaa", sum := "0b2dfbe624bb44be09a2469557e4f33f7d353f08cf672b7015f233fd57366884", func := "waystation/waystationlaw10.SiteSums", spec := "siteSums", unfollowed := true, recurses := true, apart := false, narrowed := true }
def SiteSumsUptoSaid : Prop := siteSumsUptoRow.holds Try.pinned (OpenSpec.upto siteSumsSpec)

/-- 'waystationlaw10.SiteReads', WHERE WHAT IT READS IS OF BULK AT MOST 1048576: true; the input reads as it did. -/
def siteReadsUptoRow : OpenClaim := { program := "ytealcccjnmfkcaa", sum := "0b2dfbe624bb44be09a2469557e4f33f7d353f08cf672b7015f233fd57366884", func := "waystation/waystationlaw10.SiteReads", spec := "siteReads", unfollowed := true, recurses := true, apart := false, narrowed := true }
def SiteReadsUptoSaid : Prop := siteReadsUptoRow.holds Try.pinned (OpenSpec.upto siteReadsSpec)

/-- 'waystationlaw10.SiteNobody', WHERE WHAT IT READS IS OF BULK AT MOST 1048576: true; the input reads as it did. -/
def siteNobodyUptoRow : OpenClaim := { program := "ytealcccjnmfkcaa", sum := "0b2dfbe624bb44be09a2469557e4f33f7d353f08cf672b7015f233fd57366884", func := "waystation/waystationlaw10.SiteNobody", spec := "siteNobody", unfollowed := true, recurses := true, apart := false, narrowed := true }
def SiteNobodyUptoSaid : Prop := siteNobodyUptoRow.holds Try.pinned (OpenSpec.upto siteNobodySpec)

/-- 'waystationlaw10.SiteAlone', WHERE WHAT IT READS IS OF BULK AT MOST 1048576: true; the input reads as it did. -/
def siteAloneUptoRow : OpenClaim := { program := "ytealcccjnmfkcaa", sum := "0b2dfbe624bb44be09a2469557e4f33f7d353f08cf672b7015f233fd57366884", func := "waystation/waystationlaw10.SiteAlone", spec := "siteAlone", unfollowed := true, recurses := true, apart := false, narrowed := true }
def SiteAloneUptoSaid : Prop := siteAloneUptoRow.holds Try.pinned (OpenSpec.upto siteAloneSpec)

/-- 'waystationlaw10.SiteOwn', WHERE WHAT IT READS IS OF BULK AT MOST 1048576: true; the input reads as it did. -/
def siteOwnUptoRow : OpenClaim := { program := "ytealcccjnmfkcaa", sum := "0b2dfbe624bb44be09a2469557e4f33f7d353f08cf672b7015f233fd57366884", func := "waystation/waystationlaw10.SiteOwn", spec := "siteOwn", unfollowed := true, recurses := true, apart := false, narrowed := true }
def SiteOwnUptoSaid : Prop := siteOwnUptoRow.holds Try.pinned (OpenSpec.upto siteOwnSpec)

/-- 'waystationlaw10.SiteLogs', WHERE WHAT IT READS IS OF BULK AT MOST 1048576: true; the input reads as it did. -/
def siteLogsUptoRow : OpenClaim := { program := "ytealcccjnmfkcaa", sum := "0b2dfbe624bb44be09a2469557e4f33f7d353f08cf672b7015f233fd57366884", func := "waystation/waystationlaw10.SiteLogs", spec := "siteLogs", unfollowed := true, recurses := true, apart := false, narrowed := true }
def SiteLogsUptoSaid : Prop := siteLogsUptoRow.holds Try.pinned (OpenSpec.upto siteLogsSpec)

/-- 'waystationtop.WholeLogged', WHERE WHAT IT READS IS OF BULK AT MOST 1048576: true; the input reads as it did. -/
def wholeLoggedUptoRow : OpenClaim := { program := "ytealcccjnmfkcaa", sum := "0b2dfbe624bb44be09a2469557e4f33f7d353f08cf672b7015f233fd57366884", func := "waystation/waystationtop.WholeLogged", spec := "wholeLogged", unfollowed := true, recurses := true, apart := false, narrowed := true }
def WholeLoggedUptoSaid : Prop := wholeLoggedUptoRow.holds Try.pinned (OpenSpec.upto wholeLoggedSpec)

end Rows
end Go.Proofs.Ytealcccjnmfkcaa
