/-
  No cell of these rows narrows 'for every input' (looked for: loops, veiled, ifaces, maps, wideKeys, modest, calm, conditions, laid).
  DERIVED. THE GIVEN ROWS OF THIS SEAT. 6 by the template 'for every input the law returns true; each argument reads behind the call as it read before'; 0 by the template 'total and deterministic' (their statements: YtpdjcbigbgoioaaTotals.lean).
  GIVEN WITH THE SEED: the statements are not yours to turn. If you find one false, say at which input.
  Laid BY PROGRAM, IN A SANDBOX (cutbox-rows.mjs): the forced cells as the released guide's own fill.sh prints them over the translation 7d8bc149f22616a7… (all of the seat's roots in one cut). By AI agents, Wed Nov 11 2026. No macro, syntax, notation, axiom, sorry.
-/
import Derived.Test.YtpdjcbigbgoioaaChecked
import GoSem.Claim
import GoSem.ClaimJoined
import GoSem.ClaimMapViews
import Derived.JoinedTies
import Derived.KernelRfl
namespace Go.Proofs.Ytpdjcbigbgoioaa
/- THE CELL 'sum', in the pinned program and in every row, IS THE sha256 OF THE DUMP (.gsa) THAT YtpdjcbigbgoioaaProg.lean LOADS. Nothing in Lean hashes anything: it is a label: what it is worth is what the hold of that sum in a sandbox is worth. -/
noncomputable def Try.pinned : Pinned := { name := "ytpdjcbigbgoioaa", sum := "7d8bc149f22616a73bf8aa5937fc6f2f49e3b67801799f10f5f12287a3145c70", checked := Try.checked }
namespace Rows
def none {H : Type} : Left H := { results := [], args := [] }

/-- 'waystationlaw11.LeaseCalls': WHATEVER THE INPUT: true; the input reads as it did. -/
def leaseCallsSpec : ChangeSpec := { name := "leaseCalls", fn := fun _ => fun
  | [d1, d2] => { results := [.lit (.bool true)], args := [d1, d2] }
  | _ => none }
def leaseCallsRow : OpenClaim := { program := "ytpdjcbigbgoioaa", sum := "7d8bc149f22616a73bf8aa5937fc6f2f49e3b67801799f10f5f12287a3145c70", func := "waystation/waystationlaw11.LeaseCalls", spec := "leaseCalls", apart := false }
def LeaseCallsSaid : Prop := leaseCallsRow.holds Try.pinned (OpenSpec.ofChange leaseCallsSpec)

/-- ITS FALSE NEIGHBOUR: 'it returns false'. Refute it at one input. -/
def leaseCallsWrong : ChangeSpec := { name := "leaseCalls", fn := fun _ => fun
  | [d1, d2] => { results := [.lit (.bool false)], args := [d1, d2] }
  | _ => none }
def LeaseCallsWrongFalsely : Prop := leaseCallsRow.holds Try.pinned (OpenSpec.ofChange leaseCallsWrong)

/-- 'waystationlaw11.LeaseBytes': WHATEVER THE INPUT: true; the input reads as it did. -/
def leaseBytesSpec : ChangeSpec := { name := "leaseBytes", fn := fun _ => fun
  | [d1, d2] => { results := [.lit (.bool true)], args := [d1, d2] }
  | _ => none }
def leaseBytesRow : OpenClaim := { program := "ytpdjcbigbgoioaa", sum := "7d8bc149f22616a73bf8aa5937fc6f2f49e3b67801799f10f5f12287a3145c70", func := "waystation/waystationlaw11.LeaseBytes", spec := "leaseBytes", unfollowed := true, recurses := true, apart := false }
def LeaseBytesSaid : Prop := leaseBytesRow.holds Try.pinned (OpenSpec.ofChange leaseBytesSpec)

/-- ITS FALSE NEIGHBOUR: 'it returns false'. Refute it at one input. -/
def leaseBytesWrong : ChangeSpec := { name := "leaseBytes", fn := fun _ => fun
  | [d1, d2] => { results := [.lit (.bool false)], args := [d1, d2] }
  | _ => none }
def LeaseBytesWrongFalsely : Prop := leaseBytesRow.holds Try.pinned (OpenSpec.ofChange leaseBytesWrong)

/-- 'waystationlaw11.LeaseForward': WHATEVER THE INPUT: true; the input reads as it did. -/
def leaseForwardSpec : ChangeSpec := { name := "leaseForward", fn := fun _ => fun
  | [d1, d2] => { results := [.lit (.bool true)], args := [d1, d2] }
  | _ => none }
def leaseForwardRow : OpenClaim := { program := "ytpdjcbigbgoioaa", sum := "7d8bc149f22616a73bf8aa5937fc6f2f49e3b67801799f10f5f12287a3145c70", func := "waystation/waystationlaw11.LeaseForward", spec := "leaseForward", apart := false }
def LeaseForwardSaid : Prop := leaseForwardRow.holds Try.pinned (OpenSpec.ofChange leaseForwardSpec)

/-- ITS FALSE NEIGHBOUR: 'it returns false'. Refute it at one input. -/
def leaseForwardWrong : ChangeSpec := { name := "leaseForward", fn := fun _ => fun
  | [d1, d2] => { results := [.lit (.bool false)], args := [d1, d2] }
  | _ => none }
def LeaseForwardWrongFalsely : Prop := leaseForwardRow.holds Try.pinned (OpenSpec.ofChange leaseForwardWrong)

/-- 'waystationlaw11.LeaseSpeaks': WHATEVER THE INPUT: true; the input reads as it did. -/
def leaseSpeaksSpec : ChangeSpec := { name := "leaseSpeaks", fn := fun _ => fun
  | [d1, d2, d3] => { results := [.lit (.bool true)], args := [d1, d2, d3] }
  | _ => none }
def leaseSpeaksRow : OpenClaim := { program := "ytpdjcbigbgoioaa", sum := "7d8bc149f22616a73bf8aa5937fc6f2f49e3b67801799f10f5f12287a3145c70", func := "waystation/waystationlaw11.LeaseSpeaks", spec := "leaseSpeaks", apart := false }
def LeaseSpeaksSaid : Prop := leaseSpeaksRow.holds Try.pinned (OpenSpec.ofChange leaseSpeaksSpec)

/-- ITS FALSE NEIGHBOUR: 'it returns false'. Refute it at one input. -/
def leaseSpeaksWrong : ChangeSpec := { name := "leaseSpeaks", fn := fun _ => fun
  | [d1, d2, d3] => { results := [.lit (.bool false)], args := [d1, d2, d3] }
  | _ => none }
def LeaseSpeaksWrongFalsely : Prop := leaseSpeaksRow.holds Try.pinned (OpenSpec.ofChange leaseSpeaksWrong)

/-- 'waystationlaw11.LeaseChain': WHATEVER THE INPUT: true; the input reads as it did. -/
def leaseChainSpec : ChangeSpec := { name := "leaseChain", fn := fun _ => fun
  | [d] => { results := [.lit (.bool true)], args := [d] }
  | _ => none }
def leaseChainRow : OpenClaim := { program := "ytpdjcbigbgoioaa", sum := "7d8bc149f22616a73bf8aa5937fc6f2f49e3b67801799f10f5f12287a3145c70", func := "waystation/waystationlaw11.LeaseChain", spec := "leaseChain", apart := false }
def LeaseChainSaid : Prop := leaseChainRow.holds Try.pinned (OpenSpec.ofChange leaseChainSpec)

/-- ITS FALSE NEIGHBOUR: 'it returns false'. Refute it at one input. -/
def leaseChainWrong : ChangeSpec := { name := "leaseChain", fn := fun _ => fun
  | [d] => { results := [.lit (.bool false)], args := [d] }
  | _ => none }
def LeaseChainWrongFalsely : Prop := leaseChainRow.holds Try.pinned (OpenSpec.ofChange leaseChainWrong)

/-- 'waystationlaw11.LeaseRises': WHATEVER THE INPUT: true; the input reads as it did. -/
def leaseRisesSpec : ChangeSpec := { name := "leaseRises", fn := fun _ => fun
  | [d1, d2] => { results := [.lit (.bool true)], args := [d1, d2] }
  | _ => none }
def leaseRisesRow : OpenClaim := { program := "ytpdjcbigbgoioaa", sum := "7d8bc149f22616a73bf8aa5937fc6f2f49e3b67801799f10f5f12287a3145c70", func := "waystation/waystationlaw11.LeaseRises", spec := "leaseRises", apart := false }
def LeaseRisesSaid : Prop := leaseRisesRow.holds Try.pinned (OpenSpec.ofChange leaseRisesSpec)

/-- ITS FALSE NEIGHBOUR: 'it returns false'. Refute it at one input. -/
def leaseRisesWrong : ChangeSpec := { name := "leaseRises", fn := fun _ => fun
  | [d1, d2] => { results := [.lit (.bool false)], args := [d1, d2] }
  | _ => none }
def LeaseRisesWrongFalsely : Prop := leaseRisesRow.holds Try.pinned (OpenSpec.ofChange leaseRisesWrong)

/- THE SECOND FORM. 'bulk': how many values and letters a reading holds, each counted each time it is reached (what is shared counts as often as it is met; a slice's spare places count too). A statement '..UptoSaid' is the law's where the arguments, and the package variables that the reading takes, are together of bulk at most 1048576: NARROWER than '..Said'. Prove '..Said' where nothing that the law and all that it calls make is longer than what came in: it says more and counts as full. Else prove '..UptoSaid'. A law counts once. -/
mutual
def uptoBulk {H : Type} : DataW H → Nat
  | .lit (.string bytes) => bytes.length + 1
  | .lit _ => 1
  | .nil => 1
  | .ptr d => uptoBulk d + 1
  | .slice elems spare => uptoBulkAll elems + uptoBulkAll spare + 1
  | .agg parts => uptoBulkAll parts + 1
  | .iface _ d => uptoBulk d + 1
  | .map entries => uptoBulkEntries entries + 1
  | .held _ => 1
def uptoBulkAll {H : Type} : List (DataW H) → Nat
  | [] => 0
  | d :: r => uptoBulk d + uptoBulkAll r
def uptoBulkEntries {H : Type} : List (Lit × DataW H) → Nat
  | [] => 0
  | x :: r => uptoBulkEntry x + uptoBulkEntries r
def uptoBulkEntry {H : Type} : Lit × DataW H → Nat
  | (.string bytes, d) => bytes.length + uptoBulk d + 1
  | (_, d) => uptoBulk d + 1
 end
def uptoSmall : (H : Type) → List (DataW H) → Bool := fun _ ds => decide (uptoBulkAll ds ≤ 1048576)
def OpenSpec.upto (s : _root_.Go.ChangeSpec) : _root_.Go.OpenSpec := { _root_.Go.OpenSpec.ofChange s with cond := some uptoSmall }

/-- 'waystationlaw11.LeaseCalls', WHERE WHAT IT READS IS OF BULK AT MOST 1048576: true; the input reads as it did. -/
def leaseCallsUptoRow : OpenClaim := { program := "ytpdjcbigbgoioaa", sum := "7d8bc149f22616a73bf8aa5937fc6f2f49e3b67801799f10f5f12287a3145c70", func := "waystation/waystationlaw11.LeaseCalls", spec := "leaseCalls", apart := false, narrowed := true }
def LeaseCallsUptoSaid : Prop := leaseCallsUptoRow.holds Try.pinned (OpenSpec.upto leaseCallsSpec)

/-- 'waystationlaw11.LeaseBytes', WHERE WHAT IT READS IS OF BULK AT MOST 1048576: true; the input reads as it did. -/
def leaseBytesUptoRow : OpenClaim := { program := "ytpdjcbigbgoioaa", sum := "7d8bc149f22616a73bf8aa5937fc6f2f49e3b67801799f10f5f12287a3145c70", func := "waystation/waystationlaw11.LeaseBytes", spec := "leaseBytes", unfollowed := true, recurses := true, apart := false, narrowed := true }
def LeaseBytesUptoSaid : Prop := leaseBytesUptoRow.holds Try.pinned (OpenSpec.upto leaseBytesSpec)

/-- 'waystationlaw11.LeaseForward', WHERE WHAT IT READS IS OF BULK AT MOST 1048576: true; the input reads as it did. -/
def leaseForwardUptoRow : OpenClaim := { program := "ytpdjcbigbgoioaa", sum := "7d8bc149f22616a73bf8aa5937fc6f2f49e3b67801799f10f5f12287a3145c70", func := "waystation/waystationlaw11.LeaseForward", spec := "leaseForward", apart := false, narrowed := true }
def LeaseForwardUptoSaid : Prop := leaseForwardUptoRow.holds Try.pinned (OpenSpec.upto leaseForwardSpec)

/-- 'waystationlaw11.LeaseSpeaks', WHERE WHAT IT READS IS OF BULK AT MOST 1048576: true; the input reads as it did. -/
def leaseSpeaksUptoRow : OpenClaim := { program := "ytpdjcbigbgoioaa", sum := "7d8bc149f22616a73bf8aa5937fc6f2f49e3b67801799f10f5f12287a3145c70", func := "waystation/waystationlaw11.LeaseSpeaks", spec := "leaseSpeaks", apart := false, narrowed := true }
def LeaseSpeaksUptoSaid : Prop := leaseSpeaksUptoRow.holds Try.pinned (OpenSpec.upto leaseSpeaksSpec)

/-- 'waystationlaw11.LeaseChain', WHERE WHAT IT READS IS OF BULK AT MOST 1048576: true; the input reads as it did. -/
def leaseChainUptoRow : OpenClaim := { program := "ytpdjcbigbgoioaa", sum := "7d8bc149f22616a73bf8aa5937fc6f2f49e3b67801799f10f5f12287a3145c70", func := "waystation/waystationlaw11.LeaseChain", spec := "leaseChain", apart := false, narrowed := true }
def LeaseChainUptoSaid : Prop := leaseChainUptoRow.holds Try.pinned (OpenSpec.upto leaseChainSpec)

/-- 'waystationlaw11.LeaseRises', WHERE WHAT IT READS IS OF BULK AT MOST 1048576: true; the input reads as it did. -/
def leaseRisesUptoRow : OpenClaim := { program := "ytpdjcbigbgoioaa", sum := "7d8bc149f22616a73bf8aa5937fc6f2f49e3b67801799f10f5f12287a3145c70", func := "waystation/waystationlaw11.LeaseRises", spec := "leaseRises", apart := false, narrowed := true }
def LeaseRisesUptoSaid : Prop := leaseRisesUptoRow.holds Try.pinned (OpenSpec.upto leaseRisesSpec)

end Rows
end Go.Proofs.Ytpdjcbigbgoioaa
