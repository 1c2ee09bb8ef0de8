/-
  No cell of these rows narrows 'for every input' (looked for: loops, veiled, ifaces, maps, wideKeys, modest, calm, conditions, laid).
  DERIVED. THE GIVEN ROWS OF THIS SEAT. 6 by the template 'for every input the law returns true; each argument reads behind the call as it read before'; 0 by the template 'total and deterministic' (their statements: YtaklbnabgcglhabTotals.lean).
  GIVEN WITH THE SEED: the statements are not yours to turn. If you find one false, say at which input.
  Laid BY PROGRAM, IN A SANDBOX (cutbox-rows.mjs): the forced cells as the released guide's own fill.sh prints them over the translation 1ffdf1d2ee129fa7… (all of the seat's roots in one cut). By AI agents, Wed Nov 11 2026. No macro, syntax, notation, axiom, sorry.
-/
import Derived.Test.YtaklbnabgcglhabChecked
import GoSem.Claim
import GoSem.ClaimJoined
import GoSem.ClaimMapViews
import Derived.JoinedTies
import Derived.KernelRfl
namespace Go.Proofs.Ytaklbnabgcglhab
/- THE CELL 'sum', in the pinned program and in every row, IS THE sha256 OF THE DUMP (.gsa) THAT YtaklbnabgcglhabProg.lean LOADS. Nothing in Lean hashes anything: it is a label: what it is worth is what the hold of that sum in a sandbox is worth. -/
noncomputable def Try.pinned : Pinned := { name := "ytaklbnabgcglhab", sum := "1ffdf1d2ee129fa7772f0ef54a4ac5d2ee4a704244b182493cbf220d1b9fa09a", checked := Try.checked }
namespace Rows
def none {H : Type} : Left H := { results := [], args := [] }

/-- 'shipfitterlaw.PatchThere': WHATEVER THE INPUT: true; the input reads as it did. -/
def patchThereSpec : ChangeSpec := { name := "patchThere", fn := fun _ => fun
  | [d1, d2, d3, d4] => { results := [.lit (.bool true)], args := [d1, d2, d3, d4] }
  | _ => none }
def patchThereRow : OpenClaim := { program := "ytaklbnabgcglhab", sum := "1ffdf1d2ee129fa7772f0ef54a4ac5d2ee4a704244b182493cbf220d1b9fa09a", func := "shipfitter/shipfitterlaw.PatchThere", spec := "patchThere", unfollowed := true, recurses := true, plainKeys := false, apart := false }
def PatchThereSaid : Prop := patchThereRow.holds Try.pinned (OpenSpec.ofChange patchThereSpec)

/-- ITS FALSE NEIGHBOUR: 'it returns false'. Refute it at one input. -/
def patchThereWrong : ChangeSpec := { name := "patchThere", fn := fun _ => fun
  | [d1, d2, d3, d4] => { results := [.lit (.bool false)], args := [d1, d2, d3, d4] }
  | _ => none }
def PatchThereWrongFalsely : Prop := patchThereRow.holds Try.pinned (OpenSpec.ofChange patchThereWrong)

/-- 'shipfitterlaw.PatchMoved': WHATEVER THE INPUT: true; the input reads as it did. -/
def patchMovedSpec : ChangeSpec := { name := "patchMoved", fn := fun _ => fun
  | [d1, d2, d3, d4, d5] => { results := [.lit (.bool true)], args := [d1, d2, d3, d4, d5] }
  | _ => none }
def patchMovedRow : OpenClaim := { program := "ytaklbnabgcglhab", sum := "1ffdf1d2ee129fa7772f0ef54a4ac5d2ee4a704244b182493cbf220d1b9fa09a", func := "shipfitter/shipfitterlaw.PatchMoved", spec := "patchMoved", unfollowed := true, recurses := true, plainKeys := false, apart := false }
def PatchMovedSaid : Prop := patchMovedRow.holds Try.pinned (OpenSpec.ofChange patchMovedSpec)

/-- ITS FALSE NEIGHBOUR: 'it returns false'. Refute it at one input. -/
def patchMovedWrong : ChangeSpec := { name := "patchMoved", fn := fun _ => fun
  | [d1, d2, d3, d4, d5] => { results := [.lit (.bool false)], args := [d1, d2, d3, d4, d5] }
  | _ => none }
def PatchMovedWrongFalsely : Prop := patchMovedRow.holds Try.pinned (OpenSpec.ofChange patchMovedWrong)

/-- 'shipfitterlaw.ResolveTells': WHATEVER THE INPUT: true; the input reads as it did. -/
def resolveTellsSpec : ChangeSpec := { name := "resolveTells", fn := fun _ => fun
  | [d1, d2, d3, d4] => { results := [.lit (.bool true)], args := [d1, d2, d3, d4] }
  | _ => none }
def resolveTellsRow : OpenClaim := { program := "ytaklbnabgcglhab", sum := "1ffdf1d2ee129fa7772f0ef54a4ac5d2ee4a704244b182493cbf220d1b9fa09a", func := "shipfitter/shipfitterlaw.ResolveTells", spec := "resolveTells", unfollowed := true, recurses := true, plainKeys := false, apart := false }
def ResolveTellsSaid : Prop := resolveTellsRow.holds Try.pinned (OpenSpec.ofChange resolveTellsSpec)

/-- ITS FALSE NEIGHBOUR: 'it returns false'. Refute it at one input. -/
def resolveTellsWrong : ChangeSpec := { name := "resolveTells", fn := fun _ => fun
  | [d1, d2, d3, d4] => { results := [.lit (.bool false)], args := [d1, d2, d3, d4] }
  | _ => none }
def ResolveTellsWrongFalsely : Prop := resolveTellsRow.holds Try.pinned (OpenSpec.ofChange resolveTellsWrong)

/-- 'shipfitterlaw.ResolveWithin': WHATEVER THE INPUT: true; the input reads as it did. -/
def resolveWithinSpec : ChangeSpec := { name := "resolveWithin", fn := fun _ => fun
  | [d1, d2, d3] => { results := [.lit (.bool true)], args := [d1, d2, d3] }
  | _ => none }
def resolveWithinRow : OpenClaim := { program := "ytaklbnabgcglhab", sum := "1ffdf1d2ee129fa7772f0ef54a4ac5d2ee4a704244b182493cbf220d1b9fa09a", func := "shipfitter/shipfitterlaw.ResolveWithin", spec := "resolveWithin", unfollowed := true, recurses := true, plainKeys := false, apart := false }
def ResolveWithinSaid : Prop := resolveWithinRow.holds Try.pinned (OpenSpec.ofChange resolveWithinSpec)

/-- ITS FALSE NEIGHBOUR: 'it returns false'. Refute it at one input. -/
def resolveWithinWrong : ChangeSpec := { name := "resolveWithin", fn := fun _ => fun
  | [d1, d2, d3] => { results := [.lit (.bool false)], args := [d1, d2, d3] }
  | _ => none }
def ResolveWithinWrongFalsely : Prop := resolveWithinRow.holds Try.pinned (OpenSpec.ofChange resolveWithinWrong)

/-- 'shipfitterlaw.ResolveOther': WHATEVER THE INPUT: true; the input reads as it did. -/
def resolveOtherSpec : ChangeSpec := { name := "resolveOther", fn := fun _ => fun
  | [d1, d2, d3, d4] => { results := [.lit (.bool true)], args := [d1, d2, d3, d4] }
  | _ => none }
def resolveOtherRow : OpenClaim := { program := "ytaklbnabgcglhab", sum := "1ffdf1d2ee129fa7772f0ef54a4ac5d2ee4a704244b182493cbf220d1b9fa09a", func := "shipfitter/shipfitterlaw.ResolveOther", spec := "resolveOther", unfollowed := true, recurses := true, plainKeys := false, apart := false }
def ResolveOtherSaid : Prop := resolveOtherRow.holds Try.pinned (OpenSpec.ofChange resolveOtherSpec)

/-- ITS FALSE NEIGHBOUR: 'it returns false'. Refute it at one input. -/
def resolveOtherWrong : ChangeSpec := { name := "resolveOther", fn := fun _ => fun
  | [d1, d2, d3, d4] => { results := [.lit (.bool false)], args := [d1, d2, d3, d4] }
  | _ => none }
def ResolveOtherWrongFalsely : Prop := resolveOtherRow.holds Try.pinned (OpenSpec.ofChange resolveOtherWrong)

/-- 'shipfitterlaw.GraphTells': WHATEVER THE INPUT: true; the input reads as it did. -/
def graphTellsSpec : ChangeSpec := { name := "graphTells", fn := fun _ => fun
  | [d1, d2] => { results := [.lit (.bool true)], args := [d1, d2] }
  | _ => none }
def graphTellsRow : OpenClaim := { program := "ytaklbnabgcglhab", sum := "1ffdf1d2ee129fa7772f0ef54a4ac5d2ee4a704244b182493cbf220d1b9fa09a", func := "shipfitter/shipfitterlaw.GraphTells", spec := "graphTells", inPlace := ["internal/bytealg.abigen_runtime_cmpstring"], unfollowed := true, recurses := true, plainKeys := false, apart := false }
def GraphTellsSaid : Prop := graphTellsRow.holds Try.pinned (OpenSpec.ofChange graphTellsSpec)

/-- ITS FALSE NEIGHBOUR: 'it returns false'. Refute it at one input. -/
def graphTellsWrong : ChangeSpec := { name := "graphTells", fn := fun _ => fun
  | [d1, d2] => { results := [.lit (.bool false)], args := [d1, d2] }
  | _ => none }
def GraphTellsWrongFalsely : Prop := graphTellsRow.holds Try.pinned (OpenSpec.ofChange graphTellsWrong)

/- THE SECOND FORM. 'bulk': how many values and letters a reading holds, each counted each time it is reached (what is shared counts as often as it is met; a slice's spare places count too). A statement '..UptoSaid' is the law's where the arguments, and the package variables that the reading takes, are together of bulk at most 1048576: NARROWER than '..Said'. Prove '..Said' where nothing that the law and all that it calls make is longer than what came in: it says more and counts as full. Else prove '..UptoSaid'. A law counts once. -/
mutual
def uptoBulk {H : Type} : DataW H → Nat
  | .lit (.string bytes) => bytes.length + 1
  | .lit _ => 1
  | .nil => 1
  | .ptr d => uptoBulk d + 1
  | .slice elems spare => uptoBulkAll elems + uptoBulkAll spare + 1
  | .agg parts => uptoBulkAll parts + 1
  | .iface _ d => uptoBulk d + 1
  | .map entries => uptoBulkEntries entries + 1
  | .held _ => 1
def uptoBulkAll {H : Type} : List (DataW H) → Nat
  | [] => 0
  | d :: r => uptoBulk d + uptoBulkAll r
def uptoBulkEntries {H : Type} : List (Lit × DataW H) → Nat
  | [] => 0
  | x :: r => uptoBulkEntry x + uptoBulkEntries r
def uptoBulkEntry {H : Type} : Lit × DataW H → Nat
  | (.string bytes, d) => bytes.length + uptoBulk d + 1
  | (_, d) => uptoBulk d + 1
 end
def uptoSmall : (H : Type) → List (DataW H) → Bool := fun _ ds => decide (uptoBulkAll ds ≤ 1048576)
def OpenSpec.upto (s : _root_.Go.ChangeSpec) : _root_.Go.OpenSpec := { _root_.Go.OpenSpec.ofChange s with cond := some uptoSmall }

/-- 'shipfitterlaw.PatchThere', WHERE WHAT IT READS IS OF BULK AT MOST 1048576: true; the input reads as it did. -/
def patchThereUptoRow : OpenClaim := { program := "ytaklbnabgcglhab", sum := "1ffdf1d2ee129fa7772f0ef54a4ac5d2ee4a704244b182493cbf220d1b9fa09a", func := "shipfitter/shipfitterlaw.PatchThere", spec := "patchThere", unfollowed := true, recurses := true, plainKeys := false, apart := false, narrowed := true }
def PatchThereUptoSaid : Prop := patchThereUptoRow.holds Try.pinned (OpenSpec.upto patchThereSpec)

/-- 'shipfitterlaw.PatchMoved', WHERE WHAT IT READS IS OF BULK AT MOST 1048576: true; the input reads as it did. -/
def patchMovedUptoRow : OpenClaim := { program := "ytaklbnabgcglhab", sum := "1ffdf1d2ee129fa7772f0ef54a4ac5d2ee4a704244b182493cbf220d1b9fa09a", func := "shipfitter/shipfitterlaw.PatchMoved", spec := "patchMoved", unfollowed := true, recurses := true, plainKeys := false, apart := false, narrowed := true }
def PatchMovedUptoSaid : Prop := patchMovedUptoRow.holds Try.pinned (OpenSpec.upto patchMovedSpec)

/-- 'shipfitterlaw.ResolveTells', WHERE WHAT IT READS IS OF BULK AT MOST 1048576: true; the input reads as it did. -/
def resolveTellsUptoRow : OpenClaim := { program := "ytaklbnabgcglhab", sum := "1ffdf1d2ee129fa7772f0ef54a4ac5d2ee4a704244b182493cbf220d1b9fa09a", func := "shipfitter/shipfitterlaw.ResolveTells", spec := "resolveTells", unfollowed := true, recurses := true, plainKeys := false, apart := false, narrowed := true }
def ResolveTellsUptoSaid : Prop := resolveTellsUptoRow.holds Try.pinned (OpenSpec.upto resolveTellsSpec)

/-- 'shipfitterlaw.ResolveWithin', WHERE WHAT IT READS IS OF BULK AT MOST 1048576: true; the input reads as it did. -/
def resolveWithinUptoRow : OpenClaim := { program := "ytaklbnabgcglhab", sum := "1ffdf1d2ee129fa7772f0ef54a4ac5d2ee4a704244b182493cbf220d1b9fa09a", func := "shipfitter/shipfitterlaw.ResolveWithin", spec := "resolveWithin", unfollowed := true, recurses := true, plainKeys := false, apart := false, narrowed := true }
def ResolveWithinUptoSaid : Prop := resolveWithinUptoRow.holds Try.pinned (OpenSpec.upto resolveWithinSpec)

/-- 'shipfitterlaw.ResolveOther', WHERE WHAT IT READS IS OF BULK AT MOST 1048576: true; the input reads as it did. -/
def resolveOtherUptoRow : OpenClaim := { program := "ytaklbnabgcglhab", sum := "1ffdf1d2ee129fa7772f0ef54a4ac5d2ee4a704244b182493cbf220d1b9fa09a", func := "shipfitter/shipfitterlaw.ResolveOther", spec := "resolveOther", unfollowed := true, recurses := true, plainKeys := false, apart := false, narrowed := true }
def ResolveOtherUptoSaid : Prop := resolveOtherUptoRow.holds Try.pinned (OpenSpec.upto resolveOtherSpec)

/-- 'shipfitterlaw.GraphTells', WHERE WHAT IT READS IS OF BULK AT MOST 1048576: true; the input reads as it did. -/
def graphTellsUptoRow : OpenClaim := { program := "ytaklbnabgcglhab", sum := "1ffdf1d2ee129fa7772f0ef54a4ac5d2ee4a704244b182493cbf220d1b9fa09a", func := "shipfitter/shipfitterlaw.GraphTells", spec := "graphTells", inPlace := ["internal/bytealg.abigen_runtime_cmpstring"], unfollowed := true, recurses := true, plainKeys := false, apart := false, narrowed := true }
def GraphTellsUptoSaid : Prop := graphTellsUptoRow.holds Try.pinned (OpenSpec.upto graphTellsSpec)

end Rows
end Go.Proofs.Ytaklbnabgcglhab
