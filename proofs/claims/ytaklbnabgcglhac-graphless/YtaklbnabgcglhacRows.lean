/-
  No cell of these rows narrows 'for every input' (looked for: loops, veiled, ifaces, maps, wideKeys, modest, calm, conditions, laid).
  DERIVED. THE GIVEN ROWS OF THIS SEAT. 6 by the template 'for every input the law returns true; each argument reads behind the call as it read before'; 0 by the template 'total and deterministic' (their statements: YtaklbnabgcglhacTotals.lean).
  GIVEN WITH THE SEED: the statements are not yours to turn. If you find one false, say at which input.
  Laid BY PROGRAM, IN A SANDBOX (cutbox-rows.mjs): the forced cells as the released guide's own fill.sh prints them over the translation ccca4f78b9fd4685… (all of the seat's roots in one cut). By AI agents, Wed Nov 11 2026. No macro, syntax, notation, axiom, sorry.
-/
import Derived.Test.YtaklbnabgcglhacChecked
import GoSem.Claim
import GoSem.ClaimJoined
import GoSem.ClaimMapViews
import Derived.JoinedTies
import Derived.KernelRfl
namespace Go.Proofs.Ytaklbnabgcglhac
/- THE CELL 'sum', in the pinned program and in every row, IS THE sha256 OF THE DUMP (.gsa) THAT YtaklbnabgcglhacProg.lean LOADS. Nothing in Lean hashes anything: it is a label: what it is worth is what the hold of that sum in a sandbox is worth. -/
noncomputable def Try.pinned : Pinned := { name := "ytaklbnabgcglhac", sum := "ccca4f78b9fd468565033149ca2332a03031bb96f55366115f00854521d9dc65", checked := Try.checked }
namespace Rows
def none {H : Type} : Left H := { results := [], args := [] }

/-- 'shipfitterlaw.GraphTurned': WHATEVER THE INPUT: true; the input reads as it did. -/
def graphTurnedSpec : ChangeSpec := { name := "graphTurned", fn := fun _ => fun
  | [d1, d2, d3] => { results := [.lit (.bool true)], args := [d1, d2, d3] }
  | _ => none }
def graphTurnedRow : OpenClaim := { program := "ytaklbnabgcglhac", sum := "ccca4f78b9fd468565033149ca2332a03031bb96f55366115f00854521d9dc65", func := "shipfitter/shipfitterlaw.GraphTurned", spec := "graphTurned", inPlace := ["internal/bytealg.abigen_runtime_cmpstring"], unfollowed := true, recurses := true, plainKeys := false, apart := false }
def GraphTurnedSaid : Prop := graphTurnedRow.holds Try.pinned (OpenSpec.ofChange graphTurnedSpec)

/-- ITS FALSE NEIGHBOUR: 'it returns false'. Refute it at one input. -/
def graphTurnedWrong : ChangeSpec := { name := "graphTurned", fn := fun _ => fun
  | [d1, d2, d3] => { results := [.lit (.bool false)], args := [d1, d2, d3] }
  | _ => none }
def GraphTurnedWrongFalsely : Prop := graphTurnedRow.holds Try.pinned (OpenSpec.ofChange graphTurnedWrong)

/-- 'shipfitterlaw.GraphOrder': WHATEVER THE INPUT: true; the input reads as it did. -/
def graphOrderSpec : ChangeSpec := { name := "graphOrder", fn := fun _ => fun
  | [d] => { results := [.lit (.bool true)], args := [d] }
  | _ => none }
def graphOrderRow : OpenClaim := { program := "ytaklbnabgcglhac", sum := "ccca4f78b9fd468565033149ca2332a03031bb96f55366115f00854521d9dc65", func := "shipfitter/shipfitterlaw.GraphOrder", spec := "graphOrder", inPlace := ["internal/bytealg.abigen_runtime_cmpstring"], unfollowed := true, recurses := true, plainKeys := false, apart := false }
def GraphOrderSaid : Prop := graphOrderRow.holds Try.pinned (OpenSpec.ofChange graphOrderSpec)

/-- ITS FALSE NEIGHBOUR: 'it returns false'. Refute it at one input. -/
def graphOrderWrong : ChangeSpec := { name := "graphOrder", fn := fun _ => fun
  | [d] => { results := [.lit (.bool false)], args := [d] }
  | _ => none }
def GraphOrderWrongFalsely : Prop := graphOrderRow.holds Try.pinned (OpenSpec.ofChange graphOrderWrong)

/-- 'shipfitterlaw.GraphLess': WHATEVER THE INPUT: true; the input reads as it did. -/
def graphLessSpec : ChangeSpec := { name := "graphLess", fn := fun _ => fun
  | [d1, d2] => { results := [.lit (.bool true)], args := [d1, d2] }
  | _ => none }
def graphLessRow : OpenClaim := { program := "ytaklbnabgcglhac", sum := "ccca4f78b9fd468565033149ca2332a03031bb96f55366115f00854521d9dc65", func := "shipfitter/shipfitterlaw.GraphLess", spec := "graphLess", inPlace := ["internal/bytealg.abigen_runtime_cmpstring"], unfollowed := true, recurses := true, plainKeys := false, apart := false }
def GraphLessSaid : Prop := graphLessRow.holds Try.pinned (OpenSpec.ofChange graphLessSpec)

/-- ITS FALSE NEIGHBOUR: 'it returns false'. Refute it at one input. -/
def graphLessWrong : ChangeSpec := { name := "graphLess", fn := fun _ => fun
  | [d1, d2] => { results := [.lit (.bool false)], args := [d1, d2] }
  | _ => none }
def GraphLessWrongFalsely : Prop := graphLessRow.holds Try.pinned (OpenSpec.ofChange graphLessWrong)

/-- 'shipfitterlaw.RegionTells': WHATEVER THE INPUT: true; the input reads as it did. -/
def regionTellsSpec : ChangeSpec := { name := "regionTells", fn := fun _ => fun
  | [d1, d2, d3] => { results := [.lit (.bool true)], args := [d1, d2, d3] }
  | _ => none }
def regionTellsRow : OpenClaim := { program := "ytaklbnabgcglhac", sum := "ccca4f78b9fd468565033149ca2332a03031bb96f55366115f00854521d9dc65", func := "shipfitter/shipfitterlaw.RegionTells", spec := "regionTells", unfollowed := true, recurses := true, plainKeys := false, apart := false }
def RegionTellsSaid : Prop := regionTellsRow.holds Try.pinned (OpenSpec.ofChange regionTellsSpec)

/-- ITS FALSE NEIGHBOUR: 'it returns false'. Refute it at one input. -/
def regionTellsWrong : ChangeSpec := { name := "regionTells", fn := fun _ => fun
  | [d1, d2, d3] => { results := [.lit (.bool false)], args := [d1, d2, d3] }
  | _ => none }
def RegionTellsWrongFalsely : Prop := regionTellsRow.holds Try.pinned (OpenSpec.ofChange regionTellsWrong)

/-- 'shipfitterlaw.RegionClear': WHATEVER THE INPUT: true; the input reads as it did. -/
def regionClearSpec : ChangeSpec := { name := "regionClear", fn := fun _ => fun
  | [d1, d2] => { results := [.lit (.bool true)], args := [d1, d2] }
  | _ => none }
def regionClearRow : OpenClaim := { program := "ytaklbnabgcglhac", sum := "ccca4f78b9fd468565033149ca2332a03031bb96f55366115f00854521d9dc65", func := "shipfitter/shipfitterlaw.RegionClear", spec := "regionClear", unfollowed := true, recurses := true, plainKeys := false, apart := false }
def RegionClearSaid : Prop := regionClearRow.holds Try.pinned (OpenSpec.ofChange regionClearSpec)

/-- ITS FALSE NEIGHBOUR: 'it returns false'. Refute it at one input. -/
def regionClearWrong : ChangeSpec := { name := "regionClear", fn := fun _ => fun
  | [d1, d2] => { results := [.lit (.bool false)], args := [d1, d2] }
  | _ => none }
def RegionClearWrongFalsely : Prop := regionClearRow.holds Try.pinned (OpenSpec.ofChange regionClearWrong)

/-- 'shipfitterlaw.RegionRuns': WHATEVER THE INPUT: true; the input reads as it did. -/
def regionRunsSpec : ChangeSpec := { name := "regionRuns", fn := fun _ => fun
  | [d] => { results := [.lit (.bool true)], args := [d] }
  | _ => none }
def regionRunsRow : OpenClaim := { program := "ytaklbnabgcglhac", sum := "ccca4f78b9fd468565033149ca2332a03031bb96f55366115f00854521d9dc65", func := "shipfitter/shipfitterlaw.RegionRuns", spec := "regionRuns", unfollowed := true, recurses := true, plainKeys := false, apart := false }
def RegionRunsSaid : Prop := regionRunsRow.holds Try.pinned (OpenSpec.ofChange regionRunsSpec)

/-- ITS FALSE NEIGHBOUR: 'it returns false'. Refute it at one input. -/
def regionRunsWrong : ChangeSpec := { name := "regionRuns", fn := fun _ => fun
  | [d] => { results := [.lit (.bool false)], args := [d] }
  | _ => none }
def RegionRunsWrongFalsely : Prop := regionRunsRow.holds Try.pinned (OpenSpec.ofChange regionRunsWrong)

/- THE SECOND FORM. 'bulk': how many values and letters a reading holds, each counted each time it is reached (what is shared counts as often as it is met; a slice's spare places count too). A statement '..UptoSaid' is the law's where the arguments, and the package variables that the reading takes, are together of bulk at most 1048576: NARROWER than '..Said'. Prove '..Said' where nothing that the law and all that it calls make is longer than what came in: it says more and counts as full. Else prove '..UptoSaid'. A law counts once. -/
mutual
def uptoBulk {H : Type} : DataW H → Nat
  | .lit (.string bytes) => bytes.length + 1
  | .lit _ => 1
  | .nil => 1
  | .ptr d => uptoBulk d + 1
  | .slice elems spare => uptoBulkAll elems + uptoBulkAll spare + 1
  | .agg parts => uptoBulkAll parts + 1
  | .iface _ d => uptoBulk d + 1
  | .map entries => uptoBulkEntries entries + 1
  | .held _ => 1
def uptoBulkAll {H : Type} : List (DataW H) → Nat
  | [] => 0
  | d :: r => uptoBulk d + uptoBulkAll r
def uptoBulkEntries {H : Type} : List (Lit × DataW H) → Nat
  | [] => 0
  | x :: r => uptoBulkEntry x + uptoBulkEntries r
def uptoBulkEntry {H : Type} : Lit × DataW H → Nat
  | (.string bytes, d) => bytes.length + uptoBulk d + 1
  | (_, d) => uptoBulk d + 1
 end
def uptoSmall : (H : Type) → List (DataW H) → Bool := fun _ ds => decide (uptoBulkAll ds ≤ 1048576)
def OpenSpec.upto (s : _root_.Go.ChangeSpec) : _root_.Go.OpenSpec := { _root_.Go.OpenSpec.ofChange s with cond := some uptoSmall }

/-- 'shipfitterlaw.GraphTurned', WHERE WHAT IT READS IS OF BULK AT MOST 1048576: true; the input reads as it did. -/
def graphTurnedUptoRow : OpenClaim := { program := "ytaklbnabgcglhac", sum := "ccca4f78b9fd468565033149ca2332a03031bb96f55366115f00854521d9dc65", func := "shipfitter/shipfitterlaw.GraphTurned", spec := "graphTurned", inPlace := ["internal/bytealg.abigen_runtime_cmpstring"], unfollowed := true, recurses := true, plainKeys := false, apart := false, narrowed := true }
def GraphTurnedUptoSaid : Prop := graphTurnedUptoRow.holds Try.pinned (OpenSpec.upto graphTurnedSpec)

/-- 'shipfitterlaw.GraphOrder', WHERE WHAT IT READS IS OF BULK AT MOST 1048576: true; the input reads as it did. -/
def graphOrderUptoRow : OpenClaim := { program := "ytaklbnabgcglhac", sum := "ccca4f78b9fd468565033149ca2332a03031bb96f55366115f00854521d9dc65", func := "shipfitter/shipfitterlaw.GraphOrder", spec := "graphOrder", inPlace := ["internal/bytealg.abigen_runtime_cmpstring"], unfollowed := true, recurses := true, plainKeys := false, apart := false, narrowed := true }
def GraphOrderUptoSaid : Prop := graphOrderUptoRow.holds Try.pinned (OpenSpec.upto graphOrderSpec)

/-- 'shipfitterlaw.GraphLess', WHERE WHAT IT READS IS OF BULK AT MOST 1048576: true; the input reads as it did. -/
def graphLessUptoRow : OpenClaim := { program := "ytaklbnabgcglhac", sum := "ccca4f78b9fd468565033149ca2332a03031bb96f55366115f00854521d9dc65", func := "shipfitter/shipfitterlaw.GraphLess", spec := "graphLess", inPlace := ["internal/bytealg.abigen_runtime_cmpstring"], unfollowed := true, recurses := true, plainKeys := false, apart := false, narrowed := true }
def GraphLessUptoSaid : Prop := graphLessUptoRow.holds Try.pinned (OpenSpec.upto graphLessSpec)

/-- 'shipfitterlaw.RegionTells', WHERE WHAT IT READS IS OF BULK AT MOST 1048576: true; the input reads as it did. -/
def regionTellsUptoRow : OpenClaim := { program := "ytaklbnabgcglhac", sum := "ccca4f78b9fd468565033149ca2332a03031bb96f55366115f00854521d9dc65", func := "shipfitter/shipfitterlaw.RegionTells", spec := "regionTells", unfollowed := true, recurses := true, plainKeys := false, apart := false, narrowed := true }
def RegionTellsUptoSaid : Prop := regionTellsUptoRow.holds Try.pinned (OpenSpec.upto regionTellsSpec)

/-- 'shipfitterlaw.RegionClear', WHERE WHAT IT READS IS OF BULK AT MOST 1048576: true; the input reads as it did. -/
def regionClearUptoRow : OpenClaim := { program := "ytaklbnabgcglhac", sum := "ccca4f78b9fd468565033149ca2332a03031bb96f55366115f00854521d9dc65", func := "shipfitter/shipfitterlaw.RegionClear", spec := "regionClear", unfollowed := true, recurses := true, plainKeys := false, apart := false, narrowed := true }
def RegionClearUptoSaid : Prop := regionClearUptoRow.holds Try.pinned (OpenSpec.upto regionClearSpec)

/-- 'shipfitterlaw.RegionRuns', WHERE WHAT IT READS IS OF BULK AT MOST 1048576: true; the input reads as it did. -/
def regionRunsUptoRow : OpenClaim := { program := "ytaklbnabgcglhac", sum := "ccca4f78b9fd468565033149ca2332a03031bb96f55366115f00854521d9dc65", func := "shipfitter/shipfitterlaw.RegionRuns", spec := "regionRuns", unfollowed := true, recurses := true, plainKeys := false, apart := false, narrowed := true }
def RegionRunsUptoSaid : Prop := regionRunsUptoRow.holds Try.pinned (OpenSpec.upto regionRunsSpec)

end Rows
end Go.Proofs.Ytaklbnabgcglhac
