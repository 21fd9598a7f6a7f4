/-
  No cell of these rows narrows 'for every input' (looked for: loops, veiled, ifaces, maps, wideKeys, modest, calm, conditions, laid).
  DERIVED. THE GIVEN ROWS OF THIS SEAT. 7 by the template 'for every input the law returns true; each argument reads behind the call as it read before'; 0 by the template 'total and deterministic' (their statements: YtjfmahceolhfnaaTotals.lean).
  GIVEN WITH THE SEED: the statements are not yours to turn. If you find one false, say at which input.
  Laid BY PROGRAM, IN A SANDBOX (cutbox-rows.mjs): the forced cells as the released guide's own fill.sh prints them over the translation 5c4994d89acc441c… (all of the seat's roots in one cut). By AI agents, Wed Nov 11 2026. No macro, syntax, notation, axiom, sorry.
-/
import Derived.Test.YtjfmahceolhfnaaChecked
import GoSem.Claim
import GoSem.ClaimJoined
import GoSem.ClaimMapViews
import Derived.JoinedTies
import Derived.KernelRfl
namespace Go.Proofs.Ytjfmahceolhfnaa
/- THE CELL 'sum', in the pinned program and in every row, IS THE sha256 OF THE DUMP (.gsa) THAT YtjfmahceolhfnaaProg.lean LOADS. Nothing in Lean hashes anything: it is a label: what it is worth is what the hold of that sum in a sandbox is worth. -/
noncomputable def Try.pinned : Pinned := { name := "ytjfmahceolhfnaa", sum := "5c4994d89acc441cc83ba58a5cc252baca2dd7e0234421e53880e3fef8425a2c", checked := Try.checked }
namespace Rows
def none {H : Type} : Left H := { results := [], args := [] }

/-- 'waystationlaw15.ChairActs': WHATEVER THE INPUT: true; the input reads as it did. -/
def chairActsSpec : ChangeSpec := { name := "chairActs", fn := fun _ => fun
  | [d] => { results := [.lit (.bool true)], args := [d] }
  | _ => none }
def chairActsRow : OpenClaim := { program := "ytjfmahceolhfnaa", sum := "5c4994d89acc441cc83ba58a5cc252baca2dd7e0234421e53880e3fef8425a2c", func := "waystation/waystationlaw15.ChairActs", spec := "chairActs", unfollowed := true, recurses := true, apart := false }
def ChairActsSaid : Prop := chairActsRow.holds Try.pinned (OpenSpec.ofChange chairActsSpec)

/-- ITS FALSE NEIGHBOUR: 'it returns false'. Refute it at one input. -/
def chairActsWrong : ChangeSpec := { name := "chairActs", fn := fun _ => fun
  | [d] => { results := [.lit (.bool false)], args := [d] }
  | _ => none }
def ChairActsWrongFalsely : Prop := chairActsRow.holds Try.pinned (OpenSpec.ofChange chairActsWrong)

/-- 'waystationlaw15.ChairAgain': WHATEVER THE INPUT: true; the input reads as it did. -/
def chairAgainSpec : ChangeSpec := { name := "chairAgain", fn := fun _ => fun
  | [d1, d2] => { results := [.lit (.bool true)], args := [d1, d2] }
  | _ => none }
def chairAgainRow : OpenClaim := { program := "ytjfmahceolhfnaa", sum := "5c4994d89acc441cc83ba58a5cc252baca2dd7e0234421e53880e3fef8425a2c", func := "waystation/waystationlaw15.ChairAgain", spec := "chairAgain", unfollowed := true, recurses := true, apart := false }
def ChairAgainSaid : Prop := chairAgainRow.holds Try.pinned (OpenSpec.ofChange chairAgainSpec)

/-- ITS FALSE NEIGHBOUR: 'it returns false'. Refute it at one input. -/
def chairAgainWrong : ChangeSpec := { name := "chairAgain", fn := fun _ => fun
  | [d1, d2] => { results := [.lit (.bool false)], args := [d1, d2] }
  | _ => none }
def ChairAgainWrongFalsely : Prop := chairAgainRow.holds Try.pinned (OpenSpec.ofChange chairAgainWrong)

/-- 'waystationlaw15.ChairStays': WHATEVER THE INPUT: true; the input reads as it did. -/
def chairStaysSpec : ChangeSpec := { name := "chairStays", fn := fun _ => fun
  | [d] => { results := [.lit (.bool true)], args := [d] }
  | _ => none }
def chairStaysRow : OpenClaim := { program := "ytjfmahceolhfnaa", sum := "5c4994d89acc441cc83ba58a5cc252baca2dd7e0234421e53880e3fef8425a2c", func := "waystation/waystationlaw15.ChairStays", spec := "chairStays", unfollowed := true, recurses := true, apart := false }
def ChairStaysSaid : Prop := chairStaysRow.holds Try.pinned (OpenSpec.ofChange chairStaysSpec)

/-- ITS FALSE NEIGHBOUR: 'it returns false'. Refute it at one input. -/
def chairStaysWrong : ChangeSpec := { name := "chairStays", fn := fun _ => fun
  | [d] => { results := [.lit (.bool false)], args := [d] }
  | _ => none }
def ChairStaysWrongFalsely : Prop := chairStaysRow.holds Try.pinned (OpenSpec.ofChange chairStaysWrong)

/-- 'waystationlaw15.ChairEnds': WHATEVER THE INPUT: true; the input reads as it did. -/
def chairEndsSpec : ChangeSpec := { name := "chairEnds", fn := fun _ => fun
  | [d1, d2] => { results := [.lit (.bool true)], args := [d1, d2] }
  | _ => none }
def chairEndsRow : OpenClaim := { program := "ytjfmahceolhfnaa", sum := "5c4994d89acc441cc83ba58a5cc252baca2dd7e0234421e53880e3fef8425a2c", func := "waystation/waystationlaw15.ChairEnds", spec := "chairEnds", unfollowed := true, recurses := true, apart := false }
def ChairEndsSaid : Prop := chairEndsRow.holds Try.pinned (OpenSpec.ofChange chairEndsSpec)

/-- ITS FALSE NEIGHBOUR: 'it returns false'. Refute it at one input. -/
def chairEndsWrong : ChangeSpec := { name := "chairEnds", fn := fun _ => fun
  | [d1, d2] => { results := [.lit (.bool false)], args := [d1, d2] }
  | _ => none }
def ChairEndsWrongFalsely : Prop := chairEndsRow.holds Try.pinned (OpenSpec.ofChange chairEndsWrong)

/-- 'waystationlaw15.ChairNobody': WHATEVER THE INPUT: true; the input reads as it did. -/
def chairNobodySpec : ChangeSpec := { name := "chairNobody", fn := fun _ => fun
  | [d1, d2] => { results := [.lit (.bool true)], args := [d1, d2] }
  | _ => none }
def chairNobodyRow : OpenClaim := { program := "ytjfmahceolhfnaa", sum := "5c4994d89acc441cc83ba58a5cc252baca2dd7e0234421e53880e3fef8425a2c", func := "waystation/waystationlaw15.ChairNobody", spec := "chairNobody", unfollowed := true, recurses := true, apart := false }
def ChairNobodySaid : Prop := chairNobodyRow.holds Try.pinned (OpenSpec.ofChange chairNobodySpec)

/-- ITS FALSE NEIGHBOUR: 'it returns false'. Refute it at one input. -/
def chairNobodyWrong : ChangeSpec := { name := "chairNobody", fn := fun _ => fun
  | [d1, d2] => { results := [.lit (.bool false)], args := [d1, d2] }
  | _ => none }
def ChairNobodyWrongFalsely : Prop := chairNobodyRow.holds Try.pinned (OpenSpec.ofChange chairNobodyWrong)

/-- 'waystationlaw15.ChairTicks': WHATEVER THE INPUT: true; the input reads as it did. -/
def chairTicksSpec : ChangeSpec := { name := "chairTicks", fn := fun _ => fun
  | [d1, d2] => { results := [.lit (.bool true)], args := [d1, d2] }
  | _ => none }
def chairTicksRow : OpenClaim := { program := "ytjfmahceolhfnaa", sum := "5c4994d89acc441cc83ba58a5cc252baca2dd7e0234421e53880e3fef8425a2c", func := "waystation/waystationlaw15.ChairTicks", spec := "chairTicks", unfollowed := true, recurses := true, apart := false }
def ChairTicksSaid : Prop := chairTicksRow.holds Try.pinned (OpenSpec.ofChange chairTicksSpec)

/-- ITS FALSE NEIGHBOUR: 'it returns false'. Refute it at one input. -/
def chairTicksWrong : ChangeSpec := { name := "chairTicks", fn := fun _ => fun
  | [d1, d2] => { results := [.lit (.bool false)], args := [d1, d2] }
  | _ => none }
def ChairTicksWrongFalsely : Prop := chairTicksRow.holds Try.pinned (OpenSpec.ofChange chairTicksWrong)

/-- 'waystationlaw15.ChairApart': WHATEVER THE INPUT: true; the input reads as it did. -/
def chairApartSpec : ChangeSpec := { name := "chairApart", fn := fun _ => fun
  | [d1, d2, d3] => { results := [.lit (.bool true)], args := [d1, d2, d3] }
  | _ => none }
def chairApartRow : OpenClaim := { program := "ytjfmahceolhfnaa", sum := "5c4994d89acc441cc83ba58a5cc252baca2dd7e0234421e53880e3fef8425a2c", func := "waystation/waystationlaw15.ChairApart", spec := "chairApart", unfollowed := true, recurses := true, apart := false }
def ChairApartSaid : Prop := chairApartRow.holds Try.pinned (OpenSpec.ofChange chairApartSpec)

/-- ITS FALSE NEIGHBOUR: 'it returns false'. Refute it at one input. -/
def chairApartWrong : ChangeSpec := { name := "chairApart", fn := fun _ => fun
  | [d1, d2, d3] => { results := [.lit (.bool false)], args := [d1, d2, d3] }
  | _ => none }
def ChairApartWrongFalsely : Prop := chairApartRow.holds Try.pinned (OpenSpec.ofChange chairApartWrong)

/- THE SECOND FORM. 'bulk': how many values and letters a reading holds, each counted each time it is reached (what is shared counts as often as it is met; a slice's spare places count too). A statement '..UptoSaid' is the law's where the arguments, and the package variables that the reading takes, are together of bulk at most 1048576: NARROWER than '..Said'. Prove '..Said' where nothing that the law and all that it calls make is longer than what came in: it says more and counts as full. Else prove '..UptoSaid'. A law counts once. -/
mutual
def uptoBulk {H : Type} : DataW H → Nat
  | .lit (.string bytes) => bytes.length + 1
  | .lit _ => 1
  | .nil => 1
  | .ptr d => uptoBulk d + 1
  | .slice elems spare => uptoBulkAll elems + uptoBulkAll spare + 1
  | .agg parts => uptoBulkAll parts + 1
  | .iface _ d => uptoBulk d + 1
  | .map entries => uptoBulkEntries entries + 1
  | .held _ => 1
def uptoBulkAll {H : Type} : List (DataW H) → Nat
  | [] => 0
  | d :: r => uptoBulk d + uptoBulkAll r
def uptoBulkEntries {H : Type} : List (Lit × DataW H) → Nat
  | [] => 0
  | x :: r => uptoBulkEntry x + uptoBulkEntries r
def uptoBulkEntry {H : Type} : Lit × DataW H → Nat
  | (.string bytes, d) => bytes.length + uptoBulk d + 1
  | (_, d) => uptoBulk d + 1
 end
def uptoSmall : (H : Type) → List (DataW H) → Bool := fun _ ds => decide (uptoBulkAll ds ≤ 1048576)
def OpenSpec.upto (s : _root_.Go.ChangeSpec) : _root_.Go.OpenSpec := { _root_.Go.OpenSpec.ofChange s with cond := some uptoSmall }

/-- 'waystationlaw15.ChairActs', WHERE WHAT IT READS IS OF BULK AT MOST 1048576: true; the input reads as it did. -/
def chairActsUptoRow : OpenClaim := { program := "ytjfmahceolhfnaa", sum := "5c4994d89acc441cc83ba58a5cc252baca2dd7e0234421e53880e3fef8425a2c", func := "waystation/waystationlaw15.ChairActs", spec := "chairActs", unfollowed := true, recurses := true, apart := false, narrowed := true }
def ChairActsUptoSaid : Prop := chairActsUptoRow.holds Try.pinned (OpenSpec.upto chairActsSpec)

/-- 'waystationlaw15.ChairAgain', WHERE WHAT IT READS IS OF BULK AT MOST 1048576: true; the input reads as it did. -/
def chairAgainUptoRow : OpenClaim := { program := "ytjfmahceolhfnaa", sum := "5c4994d89acc441cc83ba58a5cc252baca2dd7e0234421e53880e3fef8425a2c", func := "waystation/waystationlaw15.ChairAgain", spec := "chairAgain", unfollowed := true, recurses := true, apart := false, narrowed := true }
def ChairAgainUptoSaid : Prop := chairAgainUptoRow.holds Try.pinned (OpenSpec.upto chairAgainSpec)

/-- 'waystationlaw15.ChairStays', WHERE WHAT IT READS IS OF BULK AT MOST 1048576: true; the input reads as it did. -/
def chairStaysUptoRow : OpenClaim := { program := "ytjfmahceolhfnaa", sum := "5c4994d89acc441cc83ba58a5cc252baca2dd7e0234421e53880e3fef8425a2c", func := "waystation/waystationlaw15.ChairStays", spec := "chairStays", unfollowed := true, recurses := true, apart := false, narrowed := true }
def ChairStaysUptoSaid : Prop := chairStaysUptoRow.holds Try.pinned (OpenSpec.upto chairStaysSpec)

/-- 'waystationlaw15.ChairEnds', WHERE WHAT IT READS IS OF BULK AT MOST 1048576: true; the input reads as it did. -/
def chairEndsUptoRow : OpenClaim := { program := "ytjfmahceolhfnaa", sum := "5c4994d89acc441cc83ba58a5cc252baca2dd7e0234421e53880e3fef8425a2c", func := "waystation/waystationlaw15.ChairEnds", spec := "chairEnds", unfollowed := true, recurses := true, apart := false, narrowed := true }
def ChairEndsUptoSaid : Prop := chairEndsUptoRow.holds Try.pinned (OpenSpec.upto chairEndsSpec)

/-- 'waystationlaw15.ChairNobody', WHERE WHAT IT READS IS OF BULK AT MOST 1048576: true; the input reads as it did. -/
def chairNobodyUptoRow : OpenClaim := { program := "ytjfmahceolhfnaa", sum := "5c4994d89acc441cc83ba58a5cc252baca2dd7e0234421e53880e3fef8425a2c", func := "waystation/waystationlaw15.ChairNobody", spec := "chairNobody", unfollowed := true, recurses := true, apart := false, narrowed := true }
def ChairNobodyUptoSaid : Prop := chairNobodyUptoRow.holds Try.pinned (OpenSpec.upto chairNobodySpec)

/-- 'waystationlaw15.ChairTicks', WHERE WHAT IT READS IS OF BULK AT MOST 1048576: true; the input reads as it did. -/
def chairTicksUptoRow : OpenClaim := { program := "ytjfmahceolhfnaa", sum := "5c4994d89acc441cc83ba58a5cc252baca2dd7e0234421e53880e3fef8425a2c", func := "waystation/waystationlaw15.ChairTicks", spec := "chairTicks", unfollowed := true, recurses := true, apart := false, narrowed := true }
def ChairTicksUptoSaid : Prop := chairTicksUptoRow.holds Try.pinned (OpenSpec.upto chairTicksSpec)

/-- 'waystationlaw15.ChairApart', WHERE WHAT IT READS IS OF BULK AT MOST 1048576: true; the input reads as it did. -/
def chairApartUptoRow : OpenClaim := { program := "ytjfmahceolhfnaa", sum := "5c4994d89acc441cc83ba58a5cc252baca2dd7e0234421e53880e3fef8425a2c", func := "waystation/waystationlaw15.ChairApart", spec := "chairApart", unfollowed := true, recurses := true, apart := false, narrowed := true }
def ChairApartUptoSaid : Prop := chairApartUptoRow.holds Try.pinned (OpenSpec.upto chairApartSpec)

end Rows
end Go.Proofs.Ytjfmahceolhfnaa
