/-
  No cell of these rows narrows 'for every input' (looked for: loops, veiled, ifaces, maps, wideKeys, modest, calm, conditions, laid).
  DERIVED. THE GIVEN ROWS OF THIS SEAT. 3 by the template 'for every input the law returns true; each argument reads behind the call as it read before'; 0 by the template 'total and deterministic' (their statements: YtlpnfbpgnfappaaGreatTotals.lean).
  GIVEN WITH THE SEED: the statements are not yours to turn. If you find one false, say at which input.
  Laid BY PROGRAM, IN A SANDBOX (cutbox-rows.mjs): the forced cells as the released guide's own fill.sh prints them over the translation d44e062a7e368b8a… (all of the seat's roots in one cut). By AI agents, Wed Nov 11 2026. No macro, syntax, notation, axiom, sorry.
-/
import Derived.Test.YtlpnfbpgnfappaaGreatChecked
import GoSem.Claim
import GoSem.ClaimJoined
import GoSem.ClaimMapViews
import Derived.JoinedTies
import Derived.KernelRfl
namespace Go.Proofs.YtlpnfbpgnfappaaGreat
/- THE CELL 'sum', in the pinned program and in every row, IS THE sha256 OF THE DUMP (.gsa) THAT YtlpnfbpgnfappaaGreatProg.lean LOADS. Nothing in Lean hashes anything: it is a label: what it is worth is what the hold of that sum in a sandbox is worth. -/
noncomputable def Tryz.pinned : Pinned := { name := "ytlpnfbpgnfappaagreat", sum := "d44e062a7e368b8ad2ab2a3a349c83d4f86af32e0925b7d552aa8a4d3712d4fc", checked := Tryz.checked }
namespace Rows
def none {H : Type} : Left H := { results := [], args := [] }

/-- 'shipfitterlaw.PlanTells': WHATEVER THE INPUT: true; the input reads as it did. -/
def planTellsSpec : ChangeSpec := { name := "planTells", fn := fun _ => fun
  | [d1, d2, d3] => { results := [.lit (.bool true)], args := [d1, d2, d3] }
  | _ => none }
def planTellsRow : OpenClaim := { program := "ytlpnfbpgnfappaagreat", sum := "d44e062a7e368b8ad2ab2a3a349c83d4f86af32e0925b7d552aa8a4d3712d4fc", func := "shipfitter/shipfitterlaw.PlanTells", spec := "planTells", inPlace := ["slices.overlaps[shipfitter/api.Placed]", "internal/bytealg.abigen_runtime_cmpstring", "internal/abi.NoEscape", "internal/bytealg.MakeNoZero"], unfollowed := true, recurses := true, plainKeys := false, apart := false }
def PlanTellsSaid : Prop := planTellsRow.holds Tryz.pinned (OpenSpec.ofChange planTellsSpec)

/-- ITS FALSE NEIGHBOUR: 'it returns false'. Refute it at one input. -/
def planTellsWrong : ChangeSpec := { name := "planTells", fn := fun _ => fun
  | [d1, d2, d3] => { results := [.lit (.bool false)], args := [d1, d2, d3] }
  | _ => none }
def PlanTellsWrongFalsely : Prop := planTellsRow.holds Tryz.pinned (OpenSpec.ofChange planTellsWrong)

/-- 'shipfitterlaw.CompactRoom': WHATEVER THE INPUT: true; the input reads as it did. -/
def compactRoomSpec : ChangeSpec := { name := "compactRoom", fn := fun _ => fun
  | [d1, d2] => { results := [.lit (.bool true)], args := [d1, d2] }
  | _ => none }
def compactRoomRow : OpenClaim := { program := "ytlpnfbpgnfappaagreat", sum := "d44e062a7e368b8ad2ab2a3a349c83d4f86af32e0925b7d552aa8a4d3712d4fc", func := "shipfitter/shipfitterlaw.CompactRoom", spec := "compactRoom", inPlace := ["internal/bytealg.abigen_runtime_cmpstring", "internal/abi.NoEscape", "internal/bytealg.MakeNoZero", "slices.overlaps[shipfitter/api.Placed]"], unfollowed := true, recurses := true, plainKeys := false, apart := false }
def CompactRoomSaid : Prop := compactRoomRow.holds Tryz.pinned (OpenSpec.ofChange compactRoomSpec)

/-- ITS FALSE NEIGHBOUR: 'it returns false'. Refute it at one input. -/
def compactRoomWrong : ChangeSpec := { name := "compactRoom", fn := fun _ => fun
  | [d1, d2] => { results := [.lit (.bool false)], args := [d1, d2] }
  | _ => none }
def CompactRoomWrongFalsely : Prop := compactRoomRow.holds Tryz.pinned (OpenSpec.ofChange compactRoomWrong)

/-- 'shipfitterlaw.RestPlans': WHATEVER THE INPUT: true; the input reads as it did. -/
def restPlansSpec : ChangeSpec := { name := "restPlans", fn := fun _ => fun
  | [d1, d2, d3] => { results := [.lit (.bool true)], args := [d1, d2, d3] }
  | _ => none }
def restPlansRow : OpenClaim := { program := "ytlpnfbpgnfappaagreat", sum := "d44e062a7e368b8ad2ab2a3a349c83d4f86af32e0925b7d552aa8a4d3712d4fc", func := "shipfitter/shipfitterlaw.RestPlans", spec := "restPlans", inPlace := ["slices.overlaps[shipfitter/api.Placed]", "internal/bytealg.abigen_runtime_cmpstring", "internal/abi.NoEscape", "internal/bytealg.MakeNoZero"], unfollowed := true, recurses := true, plainKeys := false, apart := false }
def RestPlansSaid : Prop := restPlansRow.holds Tryz.pinned (OpenSpec.ofChange restPlansSpec)

/-- ITS FALSE NEIGHBOUR: 'it returns false'. Refute it at one input. -/
def restPlansWrong : ChangeSpec := { name := "restPlans", fn := fun _ => fun
  | [d1, d2, d3] => { results := [.lit (.bool false)], args := [d1, d2, d3] }
  | _ => none }
def RestPlansWrongFalsely : Prop := restPlansRow.holds Tryz.pinned (OpenSpec.ofChange restPlansWrong)

/- THE SECOND FORM. 'bulk': how many values and letters a reading holds, each counted each time it is reached (what is shared counts as often as it is met; a slice's spare places count too). A statement '..UptoSaid' is the law's where the arguments, and the package variables that the reading takes, are together of bulk at most 1048576: NARROWER than '..Said'. Prove '..Said' where nothing that the law and all that it calls make is longer than what came in: it says more and counts as full. Else prove '..UptoSaid'. A law counts once. -/
mutual
def uptoBulk {H : Type} : DataW H → Nat
  | .lit (.string bytes) => bytes.length + 1
  | .lit _ => 1
  | .nil => 1
  | .ptr d => uptoBulk d + 1
  | .slice elems spare => uptoBulkAll elems + uptoBulkAll spare + 1
  | .agg parts => uptoBulkAll parts + 1
  | .iface _ d => uptoBulk d + 1
  | .map entries => uptoBulkEntries entries + 1
  | .held _ => 1
def uptoBulkAll {H : Type} : List (DataW H) → Nat
  | [] => 0
  | d :: r => uptoBulk d + uptoBulkAll r
def uptoBulkEntries {H : Type} : List (Lit × DataW H) → Nat
  | [] => 0
  | x :: r => uptoBulkEntry x + uptoBulkEntries r
def uptoBulkEntry {H : Type} : Lit × DataW H → Nat
  | (.string bytes, d) => bytes.length + uptoBulk d + 1
  | (_, d) => uptoBulk d + 1
 end
def uptoSmall : (H : Type) → List (DataW H) → Bool := fun _ ds => decide (uptoBulkAll ds ≤ 1048576)
def OpenSpec.upto (s : _root_.Go.ChangeSpec) : _root_.Go.OpenSpec := { _root_.Go.OpenSpec.ofChange s with cond := some uptoSmall }

/-- 'shipfitterlaw.PlanTells', WHERE WHAT IT READS IS OF BULK AT MOST 1048576: true; the input reads as it did. -/
def planTellsUptoRow : OpenClaim := { program := "ytlpnfbpgnfappaagreat", sum := "d44e062a7e368b8ad2ab2a3a349c83d4f86af32e0925b7d552aa8a4d3712d4fc", func := "shipfitter/shipfitterlaw.PlanTells", spec := "planTells", inPlace := ["slices.overlaps[shipfitter/api.Placed]", "internal/bytealg.abigen_runtime_cmpstring", "internal/abi.NoEscape", "internal/bytealg.MakeNoZero"], unfollowed := true, recurses := true, plainKeys := false, apart := false, narrowed := true }
def PlanTellsUptoSaid : Prop := planTellsUptoRow.holds Tryz.pinned (OpenSpec.upto planTellsSpec)

/-- 'shipfitterlaw.CompactRoom', WHERE WHAT IT READS IS OF BULK AT MOST 1048576: true; the input reads as it did. -/
def compactRoomUptoRow : OpenClaim := { program := "ytlpnfbpgnfappaagreat", sum := "d44e062a7e368b8ad2ab2a3a349c83d4f86af32e0925b7d552aa8a4d3712d4fc", func := "shipfitter/shipfitterlaw.CompactRoom", spec := "compactRoom", inPlace := ["internal/bytealg.abigen_runtime_cmpstring", "internal/abi.NoEscape", "internal/bytealg.MakeNoZero", "slices.overlaps[shipfitter/api.Placed]"], unfollowed := true, recurses := true, plainKeys := false, apart := false, narrowed := true }
def CompactRoomUptoSaid : Prop := compactRoomUptoRow.holds Tryz.pinned (OpenSpec.upto compactRoomSpec)

/-- 'shipfitterlaw.RestPlans', WHERE WHAT IT READS IS OF BULK AT MOST 1048576: true; the input reads as it did. -/
def restPlansUptoRow : OpenClaim := { program := "ytlpnfbpgnfappaagreat", sum := "d44e062a7e368b8ad2ab2a3a349c83d4f86af32e0925b7d552aa8a4d3712d4fc", func := "shipfitter/shipfitterlaw.RestPlans", spec := "restPlans", inPlace := ["slices.overlaps[shipfitter/api.Placed]", "internal/bytealg.abigen_runtime_cmpstring", "internal/abi.NoEscape", "internal/bytealg.MakeNoZero"], unfollowed := true, recurses := true, plainKeys := false, apart := false, narrowed := true }
def RestPlansUptoSaid : Prop := restPlansUptoRow.holds Tryz.pinned (OpenSpec.upto restPlansSpec)

end Rows
end Go.Proofs.YtlpnfbpgnfappaaGreat
