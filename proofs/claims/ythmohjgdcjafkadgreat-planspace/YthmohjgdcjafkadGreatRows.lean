/-
  No cell of these rows narrows 'for every input' (looked for: loops, veiled, ifaces, maps, wideKeys, modest, calm, conditions, laid).
  DERIVED. THE GIVEN ROWS OF THIS SEAT. 6 by the template 'for every input the law returns true; each argument reads behind the call as it read before'; 0 by the template 'total and deterministic' (their statements: YthmohjgdcjafkadGreatTotals.lean).
  GIVEN WITH THE SEED: the statements are not yours to turn. If you find one false, say at which input.
  Laid BY PROGRAM, IN A SANDBOX (cutbox-rows.mjs): the forced cells as the released guide's own fill.sh prints them over the translation 3cb661394b56f316… (all of the seat's roots in one cut). By AI agents, Wed Nov 11 2026. No macro, syntax, notation, axiom, sorry.
-/
import Derived.Test.YthmohjgdcjafkadGreatChecked
import GoSem.Claim
import GoSem.ClaimJoined
import GoSem.ClaimMapViews
import Derived.JoinedTies
import Derived.KernelRfl
namespace Go.Proofs.YthmohjgdcjafkadGreat
/- THE CELL 'sum', in the pinned program and in every row, IS THE sha256 OF THE DUMP (.gsa) THAT YthmohjgdcjafkadGreatProg.lean LOADS. Nothing in Lean hashes anything: it is a label: what it is worth is what the hold of that sum in a sandbox is worth. -/
noncomputable def Tryz.pinned : Pinned := { name := "ythmohjgdcjafkadgreat", sum := "3cb661394b56f3169b81c452f8d238dd2fcedafe1d4a1750840b4d80439be28e", checked := Tryz.checked }
namespace Rows
def none {H : Type} : Left H := { results := [], args := [] }

/-- 'shipfitterlaw.LinkTells': WHATEVER THE INPUT: true; the input reads as it did. -/
def linkTellsSpec : ChangeSpec := { name := "linkTells", fn := fun _ => fun
  | [d1, d2, d3] => { results := [.lit (.bool true)], args := [d1, d2, d3] }
  | _ => none }
def linkTellsRow : OpenClaim := { program := "ythmohjgdcjafkadgreat", sum := "3cb661394b56f3169b81c452f8d238dd2fcedafe1d4a1750840b4d80439be28e", func := "shipfitter/shipfitterlaw.LinkTells", spec := "linkTells", inPlace := ["internal/bytealg.abigen_runtime_cmpstring", "internal/abi.NoEscape", "internal/bytealg.MakeNoZero"], unfollowed := true, recurses := true, plainKeys := false, apart := false }
def LinkTellsSaid : Prop := linkTellsRow.holds Tryz.pinned (OpenSpec.ofChange linkTellsSpec)

/-- ITS FALSE NEIGHBOUR: 'it returns false'. Refute it at one input. -/
def linkTellsWrong : ChangeSpec := { name := "linkTells", fn := fun _ => fun
  | [d1, d2, d3] => { results := [.lit (.bool false)], args := [d1, d2, d3] }
  | _ => none }
def LinkTellsWrongFalsely : Prop := linkTellsRow.holds Tryz.pinned (OpenSpec.ofChange linkTellsWrong)

/-- 'shipfitterlaw.LinkMoved': WHATEVER THE INPUT: true; the input reads as it did. -/
def linkMovedSpec : ChangeSpec := { name := "linkMoved", fn := fun _ => fun
  | [d1, d2] => { results := [.lit (.bool true)], args := [d1, d2] }
  | _ => none }
def linkMovedRow : OpenClaim := { program := "ythmohjgdcjafkadgreat", sum := "3cb661394b56f3169b81c452f8d238dd2fcedafe1d4a1750840b4d80439be28e", func := "shipfitter/shipfitterlaw.LinkMoved", spec := "linkMoved", inPlace := ["internal/bytealg.abigen_runtime_cmpstring", "internal/abi.NoEscape", "internal/bytealg.MakeNoZero"], unfollowed := true, recurses := true, plainKeys := false, apart := false }
def LinkMovedSaid : Prop := linkMovedRow.holds Tryz.pinned (OpenSpec.ofChange linkMovedSpec)

/-- ITS FALSE NEIGHBOUR: 'it returns false'. Refute it at one input. -/
def linkMovedWrong : ChangeSpec := { name := "linkMoved", fn := fun _ => fun
  | [d1, d2] => { results := [.lit (.bool false)], args := [d1, d2] }
  | _ => none }
def LinkMovedWrongFalsely : Prop := linkMovedRow.holds Tryz.pinned (OpenSpec.ofChange linkMovedWrong)

/-- 'shipfitterlaw.LinkAlone': WHATEVER THE INPUT: true; the input reads as it did. -/
def linkAloneSpec : ChangeSpec := { name := "linkAlone", fn := fun _ => fun
  | [d1, d2, d3, d4] => { results := [.lit (.bool true)], args := [d1, d2, d3, d4] }
  | _ => none }
def linkAloneRow : OpenClaim := { program := "ythmohjgdcjafkadgreat", sum := "3cb661394b56f3169b81c452f8d238dd2fcedafe1d4a1750840b4d80439be28e", func := "shipfitter/shipfitterlaw.LinkAlone", spec := "linkAlone", inPlace := ["internal/bytealg.abigen_runtime_cmpstring", "internal/abi.NoEscape", "internal/bytealg.MakeNoZero"], unfollowed := true, recurses := true, plainKeys := false, apart := false }
def LinkAloneSaid : Prop := linkAloneRow.holds Tryz.pinned (OpenSpec.ofChange linkAloneSpec)

/-- ITS FALSE NEIGHBOUR: 'it returns false'. Refute it at one input. -/
def linkAloneWrong : ChangeSpec := { name := "linkAlone", fn := fun _ => fun
  | [d1, d2, d3, d4] => { results := [.lit (.bool false)], args := [d1, d2, d3, d4] }
  | _ => none }
def LinkAloneWrongFalsely : Prop := linkAloneRow.holds Tryz.pinned (OpenSpec.ofChange linkAloneWrong)

/-- 'shipfitterlaw.RegistryTells': WHATEVER THE INPUT: true; the input reads as it did. -/
def registryTellsSpec : ChangeSpec := { name := "registryTells", fn := fun _ => fun
  | [d1, d2] => { results := [.lit (.bool true)], args := [d1, d2] }
  | _ => none }
def registryTellsRow : OpenClaim := { program := "ythmohjgdcjafkadgreat", sum := "3cb661394b56f3169b81c452f8d238dd2fcedafe1d4a1750840b4d80439be28e", func := "shipfitter/shipfitterlaw.RegistryTells", spec := "registryTells", inPlace := ["internal/bytealg.abigen_runtime_cmpstring", "internal/abi.NoEscape", "internal/bytealg.MakeNoZero"], unfollowed := true, recurses := true, plainKeys := false, apart := false }
def RegistryTellsSaid : Prop := registryTellsRow.holds Tryz.pinned (OpenSpec.ofChange registryTellsSpec)

/-- ITS FALSE NEIGHBOUR: 'it returns false'. Refute it at one input. -/
def registryTellsWrong : ChangeSpec := { name := "registryTells", fn := fun _ => fun
  | [d1, d2] => { results := [.lit (.bool false)], args := [d1, d2] }
  | _ => none }
def RegistryTellsWrongFalsely : Prop := registryTellsRow.holds Tryz.pinned (OpenSpec.ofChange registryTellsWrong)

/-- 'shipfitterlaw.RegistryWhole': WHATEVER THE INPUT: true; the input reads as it did. -/
def registryWholeSpec : ChangeSpec := { name := "registryWhole", fn := fun _ => fun
  | [d] => { results := [.lit (.bool true)], args := [d] }
  | _ => none }
def registryWholeRow : OpenClaim := { program := "ythmohjgdcjafkadgreat", sum := "3cb661394b56f3169b81c452f8d238dd2fcedafe1d4a1750840b4d80439be28e", func := "shipfitter/shipfitterlaw.RegistryWhole", spec := "registryWhole", inPlace := ["internal/bytealg.abigen_runtime_cmpstring", "internal/abi.NoEscape", "internal/bytealg.MakeNoZero"], unfollowed := true, recurses := true, plainKeys := false, apart := false }
def RegistryWholeSaid : Prop := registryWholeRow.holds Tryz.pinned (OpenSpec.ofChange registryWholeSpec)

/-- ITS FALSE NEIGHBOUR: 'it returns false'. Refute it at one input. -/
def registryWholeWrong : ChangeSpec := { name := "registryWhole", fn := fun _ => fun
  | [d] => { results := [.lit (.bool false)], args := [d] }
  | _ => none }
def RegistryWholeWrongFalsely : Prop := registryWholeRow.holds Tryz.pinned (OpenSpec.ofChange registryWholeWrong)

/-- 'shipfitterlaw.PlanSpace': WHATEVER THE INPUT: true; the input reads as it did. -/
def planSpaceSpec : ChangeSpec := { name := "planSpace", fn := fun _ => fun
  | [d1, d2] => { results := [.lit (.bool true)], args := [d1, d2] }
  | _ => none }
def planSpaceRow : OpenClaim := { program := "ythmohjgdcjafkadgreat", sum := "3cb661394b56f3169b81c452f8d238dd2fcedafe1d4a1750840b4d80439be28e", func := "shipfitter/shipfitterlaw.PlanSpace", spec := "planSpace", inPlace := ["slices.overlaps[shipfitter/api.Placed]", "internal/bytealg.abigen_runtime_cmpstring", "internal/abi.NoEscape", "internal/bytealg.MakeNoZero"], unfollowed := true, recurses := true, plainKeys := false, apart := false }
def PlanSpaceSaid : Prop := planSpaceRow.holds Tryz.pinned (OpenSpec.ofChange planSpaceSpec)

/-- ITS FALSE NEIGHBOUR: 'it returns false'. Refute it at one input. -/
def planSpaceWrong : ChangeSpec := { name := "planSpace", fn := fun _ => fun
  | [d1, d2] => { results := [.lit (.bool false)], args := [d1, d2] }
  | _ => none }
def PlanSpaceWrongFalsely : Prop := planSpaceRow.holds Tryz.pinned (OpenSpec.ofChange planSpaceWrong)

/- THE SECOND FORM. 'bulk': how many values and letters a reading holds, each counted each time it is reached (what is shared counts as often as it is met; a slice's spare places count too). A statement '..UptoSaid' is the law's where the arguments, and the package variables that the reading takes, are together of bulk at most 1048576: NARROWER than '..Said'. Prove '..Said' where nothing that the law and all that it calls make is longer than what came in: it says more and counts as full. Else prove '..UptoSaid'. A law counts once. -/
mutual
def uptoBulk {H : Type} : DataW H → Nat
  | .lit (.string bytes) => bytes.length + 1
  | .lit _ => 1
  | .nil => 1
  | .ptr d => uptoBulk d + 1
  | .slice elems spare => uptoBulkAll elems + uptoBulkAll spare + 1
  | .agg parts => uptoBulkAll parts + 1
  | .iface _ d => uptoBulk d + 1
  | .map entries => uptoBulkEntries entries + 1
  | .held _ => 1
def uptoBulkAll {H : Type} : List (DataW H) → Nat
  | [] => 0
  | d :: r => uptoBulk d + uptoBulkAll r
def uptoBulkEntries {H : Type} : List (Lit × DataW H) → Nat
  | [] => 0
  | x :: r => uptoBulkEntry x + uptoBulkEntries r
def uptoBulkEntry {H : Type} : Lit × DataW H → Nat
  | (.string bytes, d) => bytes.length + uptoBulk d + 1
  | (_, d) => uptoBulk d + 1
 end
def uptoSmall : (H : Type) → List (DataW H) → Bool := fun _ ds => decide (uptoBulkAll ds ≤ 1048576)
def OpenSpec.upto (s : _root_.Go.ChangeSpec) : _root_.Go.OpenSpec := { _root_.Go.OpenSpec.ofChange s with cond := some uptoSmall }

/-- 'shipfitterlaw.LinkTells', WHERE WHAT IT READS IS OF BULK AT MOST 1048576: true; the input reads as it did. -/
def linkTellsUptoRow : OpenClaim := { program := "ythmohjgdcjafkadgreat", sum := "3cb661394b56f3169b81c452f8d238dd2fcedafe1d4a1750840b4d80439be28e", func := "shipfitter/shipfitterlaw.LinkTells", spec := "linkTells", inPlace := ["internal/bytealg.abigen_runtime_cmpstring", "internal/abi.NoEscape", "internal/bytealg.MakeNoZero"], unfollowed := true, recurses := true, plainKeys := false, apart := false, narrowed := true }
def LinkTellsUptoSaid : Prop := linkTellsUptoRow.holds Tryz.pinned (OpenSpec.upto linkTellsSpec)

/-- 'shipfitterlaw.LinkMoved', WHERE WHAT IT READS IS OF BULK AT MOST 1048576: true; the input reads as it did. -/
def linkMovedUptoRow : OpenClaim := { program := "ythmohjgdcjafkadgreat", sum := "3cb661394b56f3169b81c452f8d238dd2fcedafe1d4a1750840b4d80439be28e", func := "shipfitter/shipfitterlaw.LinkMoved", spec := "linkMoved", inPlace := ["internal/bytealg.abigen_runtime_cmpstring", "internal/abi.NoEscape", "internal/bytealg.MakeNoZero"], unfollowed := true, recurses := true, plainKeys := false, apart := false, narrowed := true }
def LinkMovedUptoSaid : Prop := linkMovedUptoRow.holds Tryz.pinned (OpenSpec.upto linkMovedSpec)

/-- 'shipfitterlaw.LinkAlone', WHERE WHAT IT READS IS OF BULK AT MOST 1048576: true; the input reads as it did. -/
def linkAloneUptoRow : OpenClaim := { program := "ythmohjgdcjafkadgreat", sum := "3cb661394b56f3169b81c452f8d238dd2fcedafe1d4a1750840b4d80439be28e", func := "shipfitter/shipfitterlaw.LinkAlone", spec := "linkAlone", inPlace := ["internal/bytealg.abigen_runtime_cmpstring", "internal/abi.NoEscape", "internal/bytealg.MakeNoZero"], unfollowed := true, recurses := true, plainKeys := false, apart := false, narrowed := true }
def LinkAloneUptoSaid : Prop := linkAloneUptoRow.holds Tryz.pinned (OpenSpec.upto linkAloneSpec)

/-- 'shipfitterlaw.RegistryTells', WHERE WHAT IT READS IS OF BULK AT MOST 1048576: true; the input reads as it did. -/
def registryTellsUptoRow : OpenClaim := { program := "ythmohjgdcjafkadgreat", sum := "3cb661394b56f3169b81c452f8d238dd2fcedafe1d4a1750840b4d80439be28e", func := "shipfitter/shipfitterlaw.RegistryTells", spec := "registryTells", inPlace := ["internal/bytealg.abigen_runtime_cmpstring", "internal/abi.NoEscape", "internal/bytealg.MakeNoZero"], unfollowed := true, recurses := true, plainKeys := false, apart := false, narrowed := true }
def RegistryTellsUptoSaid : Prop := registryTellsUptoRow.holds Tryz.pinned (OpenSpec.upto registryTellsSpec)

/-- 'shipfitterlaw.RegistryWhole', WHERE WHAT IT READS IS OF BULK AT MOST 1048576: true; the input reads as it did. -/
def registryWholeUptoRow : OpenClaim := { program := "ythmohjgdcjafkadgreat", sum := "3cb661394b56f3169b81c452f8d238dd2fcedafe1d4a1750840b4d80439be28e", func := "shipfitter/shipfitterlaw.RegistryWhole", spec := "registryWhole", inPlace := ["internal/bytealg.abigen_runtime_cmpstring", "internal/abi.NoEscape", "internal/bytealg.MakeNoZero"], unfollowed := true, recurses := true, plainKeys := false, apart := false, narrowed := true }
def RegistryWholeUptoSaid : Prop := registryWholeUptoRow.holds Tryz.pinned (OpenSpec.upto registryWholeSpec)

/-- 'shipfitterlaw.PlanSpace', WHERE WHAT IT READS IS OF BULK AT MOST 1048576: true; the input reads as it did. -/
def planSpaceUptoRow : OpenClaim := { program := "ythmohjgdcjafkadgreat", sum := "3cb661394b56f3169b81c452f8d238dd2fcedafe1d4a1750840b4d80439be28e", func := "shipfitter/shipfitterlaw.PlanSpace", spec := "planSpace", inPlace := ["slices.overlaps[shipfitter/api.Placed]", "internal/bytealg.abigen_runtime_cmpstring", "internal/abi.NoEscape", "internal/bytealg.MakeNoZero"], unfollowed := true, recurses := true, plainKeys := false, apart := false, narrowed := true }
def PlanSpaceUptoSaid : Prop := planSpaceUptoRow.holds Tryz.pinned (OpenSpec.upto planSpaceSpec)

end Rows
end Go.Proofs.YthmohjgdcjafkadGreat
