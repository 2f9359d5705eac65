/-
  No cell of these rows narrows 'for every input' (looked for: loops, veiled, ifaces, maps, wideKeys, modest, calm, conditions, laid).
  DERIVED. THE GIVEN ROWS OF THIS SEAT. 5 by the template 'for every input the law returns true; each argument reads behind the call as it read before'; 0 by the template 'total and deterministic' (their statements: YtpjcjdhidfnbbaaGreatTotals.lean).
  GIVEN WITH THE SEED: the statements are not yours to turn. If you find one false, say at which input.
  Laid BY PROGRAM, IN A SANDBOX (cutbox-rows.mjs): the forced cells as the released guide's own fill.sh prints them over the translation fad3a7776ab21329… (all of the seat's roots in one cut). By AI agents, Wed Nov 11 2026. No macro, syntax, notation, axiom, sorry.
-/
import Derived.Test.YtpjcjdhidfnbbaaGreatChecked
import GoSem.Claim
import GoSem.ClaimJoined
import GoSem.ClaimMapViews
import Derived.JoinedTies
import Derived.KernelRfl
namespace Go.Proofs.YtpjcjdhidfnbbaaGreat
/- THE CELL 'sum', in the pinned program and in every row, IS THE sha256 OF THE DUMP (.gsa) THAT YtpjcjdhidfnbbaaGreatProg.lean LOADS. Nothing in Lean hashes anything: it is a label: what it is worth is what the hold of that sum in a sandbox is worth. -/
noncomputable def Tryz.pinned : Pinned := { name := "ytpjcjdhidfnbbaagreat", sum := "fad3a7776ab21329f7818eadc06c1e5fd48189aad06515358facc69265a3da1f", checked := Tryz.checked }
namespace Rows
def none {H : Type} : Left H := { results := [], args := [] }

/-- 'etalonlaw06.MeterMatrices': WHATEVER THE INPUT: true; the input reads as it did. -/
def meterMatricesSpec : ChangeSpec := { name := "meterMatrices", fn := fun _ => fun
  | [d1, d2, d3] => { results := [.lit (.bool true)], args := [d1, d2, d3] }
  | _ => none }
def meterMatricesRow : OpenClaim := { program := "ytpjcjdhidfnbbaagreat", sum := "fad3a7776ab21329f7818eadc06c1e5fd48189aad06515358facc69265a3da1f", func := "etalon/etalonlaw06.MeterMatrices", spec := "meterMatrices", inPlace := ["math.Float64bits", "math.Float64frombits", "math.archTrunc", "math.sqrt"], unfollowed := true, recurses := true, named := ["math/bits.divideError", "math/bits.overflowError"], apart := false }
def MeterMatricesSaid : Prop := meterMatricesRow.holds Tryz.pinned (OpenSpec.ofChange meterMatricesSpec)

/-- ITS FALSE NEIGHBOUR: 'it returns false'. Refute it at one input. -/
def meterMatricesWrong : ChangeSpec := { name := "meterMatrices", fn := fun _ => fun
  | [d1, d2, d3] => { results := [.lit (.bool false)], args := [d1, d2, d3] }
  | _ => none }
def MeterMatricesWrongFalsely : Prop := meterMatricesRow.holds Tryz.pinned (OpenSpec.ofChange meterMatricesWrong)

/-- 'etalonlaw06.MeterSees': WHATEVER THE INPUT: true; the input reads as it did. -/
def meterSeesSpec : ChangeSpec := { name := "meterSees", fn := fun _ => fun
  | [d1, d2] => { results := [.lit (.bool true)], args := [d1, d2] }
  | _ => none }
def meterSeesRow : OpenClaim := { program := "ytpjcjdhidfnbbaagreat", sum := "fad3a7776ab21329f7818eadc06c1e5fd48189aad06515358facc69265a3da1f", func := "etalon/etalonlaw06.MeterSees", spec := "meterSees", inPlace := ["math.Float64bits", "math.Float64frombits", "math.archTrunc", "math.sqrt"], unfollowed := true, recurses := true, named := ["math/bits.divideError", "math/bits.overflowError"], apart := false }
def MeterSeesSaid : Prop := meterSeesRow.holds Tryz.pinned (OpenSpec.ofChange meterSeesSpec)

/-- ITS FALSE NEIGHBOUR: 'it returns false'. Refute it at one input. -/
def meterSeesWrong : ChangeSpec := { name := "meterSees", fn := fun _ => fun
  | [d1, d2] => { results := [.lit (.bool false)], args := [d1, d2] }
  | _ => none }
def MeterSeesWrongFalsely : Prop := meterSeesRow.holds Tryz.pinned (OpenSpec.ofChange meterSeesWrong)

/-- 'etalonlaw06.MeterCalibrated': WHATEVER THE INPUT: true; the input reads as it did. -/
def meterCalibratedSpec : ChangeSpec := { name := "meterCalibrated", fn := fun _ => fun
  | [d1, d2, d3] => { results := [.lit (.bool true)], args := [d1, d2, d3] }
  | _ => none }
def meterCalibratedRow : OpenClaim := { program := "ytpjcjdhidfnbbaagreat", sum := "fad3a7776ab21329f7818eadc06c1e5fd48189aad06515358facc69265a3da1f", func := "etalon/etalonlaw06.MeterCalibrated", spec := "meterCalibrated", inPlace := ["math.Float64bits", "math.Float64frombits", "math.archTrunc", "math.sqrt"], unfollowed := true, recurses := true, named := ["math/bits.divideError", "math/bits.overflowError"], apart := false }
def MeterCalibratedSaid : Prop := meterCalibratedRow.holds Tryz.pinned (OpenSpec.ofChange meterCalibratedSpec)

/-- ITS FALSE NEIGHBOUR: 'it returns false'. Refute it at one input. -/
def meterCalibratedWrong : ChangeSpec := { name := "meterCalibrated", fn := fun _ => fun
  | [d1, d2, d3] => { results := [.lit (.bool false)], args := [d1, d2, d3] }
  | _ => none }
def MeterCalibratedWrongFalsely : Prop := meterCalibratedRow.holds Tryz.pinned (OpenSpec.ofChange meterCalibratedWrong)

/-- 'etalonlaw06.MeterReads': WHATEVER THE INPUT: true; the input reads as it did. -/
def meterReadsSpec : ChangeSpec := { name := "meterReads", fn := fun _ => fun
  | [d] => { results := [.lit (.bool true)], args := [d] }
  | _ => none }
def meterReadsRow : OpenClaim := { program := "ytpjcjdhidfnbbaagreat", sum := "fad3a7776ab21329f7818eadc06c1e5fd48189aad06515358facc69265a3da1f", func := "etalon/etalonlaw06.MeterReads", spec := "meterReads", inPlace := ["math.Float64bits", "math.Float64frombits", "math.archTrunc", "math.sqrt"], unfollowed := true, recurses := true, named := ["math/bits.divideError", "math/bits.overflowError"], apart := false }
def MeterReadsSaid : Prop := meterReadsRow.holds Tryz.pinned (OpenSpec.ofChange meterReadsSpec)

/-- ITS FALSE NEIGHBOUR: 'it returns false'. Refute it at one input. -/
def meterReadsWrong : ChangeSpec := { name := "meterReads", fn := fun _ => fun
  | [d] => { results := [.lit (.bool false)], args := [d] }
  | _ => none }
def MeterReadsWrongFalsely : Prop := meterReadsRow.holds Tryz.pinned (OpenSpec.ofChange meterReadsWrong)

/-- 'etalonlaw06.MeterJudges': WHATEVER THE INPUT: true; the input reads as it did. -/
def meterJudgesSpec : ChangeSpec := { name := "meterJudges", fn := fun _ => fun
  | [d] => { results := [.lit (.bool true)], args := [d] }
  | _ => none }
def meterJudgesRow : OpenClaim := { program := "ytpjcjdhidfnbbaagreat", sum := "fad3a7776ab21329f7818eadc06c1e5fd48189aad06515358facc69265a3da1f", func := "etalon/etalonlaw06.MeterJudges", spec := "meterJudges", inPlace := ["math.Float64bits", "math.Float64frombits", "math.archTrunc", "math.sqrt"], unfollowed := true, recurses := true, named := ["math/bits.divideError", "math/bits.overflowError"], apart := false }
def MeterJudgesSaid : Prop := meterJudgesRow.holds Tryz.pinned (OpenSpec.ofChange meterJudgesSpec)

/-- ITS FALSE NEIGHBOUR: 'it returns false'. Refute it at one input. -/
def meterJudgesWrong : ChangeSpec := { name := "meterJudges", fn := fun _ => fun
  | [d] => { results := [.lit (.bool false)], args := [d] }
  | _ => none }
def MeterJudgesWrongFalsely : Prop := meterJudgesRow.holds Tryz.pinned (OpenSpec.ofChange meterJudgesWrong)

/- THE SECOND FORM. 'bulk': how many values and letters a reading holds, each counted each time it is reached (what is shared counts as often as it is met; a slice's spare places count too). A statement '..UptoSaid' is the law's where the arguments, and the package variables that the reading takes, are together of bulk at most 1048576: NARROWER than '..Said'. Prove '..Said' where nothing that the law and all that it calls make is longer than what came in: it says more and counts as full. Else prove '..UptoSaid'. A law counts once. -/
mutual
def uptoBulk {H : Type} : DataW H → Nat
  | .lit (.string bytes) => bytes.length + 1
  | .lit _ => 1
  | .nil => 1
  | .ptr d => uptoBulk d + 1
  | .slice elems spare => uptoBulkAll elems + uptoBulkAll spare + 1
  | .agg parts => uptoBulkAll parts + 1
  | .iface _ d => uptoBulk d + 1
  | .map entries => uptoBulkEntries entries + 1
  | .held _ => 1
def uptoBulkAll {H : Type} : List (DataW H) → Nat
  | [] => 0
  | d :: r => uptoBulk d + uptoBulkAll r
def uptoBulkEntries {H : Type} : List (Lit × DataW H) → Nat
  | [] => 0
  | x :: r => uptoBulkEntry x + uptoBulkEntries r
def uptoBulkEntry {H : Type} : Lit × DataW H → Nat
  | (.string bytes, d) => bytes.length + uptoBulk d + 1
  | (_, d) => uptoBulk d + 1
 end
def uptoSmall : (H : Type) → List (DataW H) → Bool := fun _ ds => decide (uptoBulkAll ds ≤ 1048576)
def OpenSpec.upto (s : _root_.Go.ChangeSpec) : _root_.Go.OpenSpec := { _root_.Go.OpenSpec.ofChange s with cond := some uptoSmall }

/-- 'etalonlaw06.MeterMatrices', WHERE WHAT IT READS IS OF BULK AT MOST 1048576: true; the input reads as it did. -/
def meterMatricesUptoRow : OpenClaim := { program := "ytpjcjdhidfnbbaagreat", sum := "fad3a7776ab21329f7818eadc06c1e5fd48189aad06515358facc69265a3da1f", func := "etalon/etalonlaw06.MeterMatrices", spec := "meterMatrices", inPlace := ["math.Float64bits", "math.Float64frombits", "math.archTrunc", "math.sqrt"], unfollowed := true, recurses := true, named := ["math/bits.divideError", "math/bits.overflowError"], apart := false, narrowed := true }
def MeterMatricesUptoSaid : Prop := meterMatricesUptoRow.holds Tryz.pinned (OpenSpec.upto meterMatricesSpec)

/-- 'etalonlaw06.MeterSees', WHERE WHAT IT READS IS OF BULK AT MOST 1048576: true; the input reads as it did. -/
def meterSeesUptoRow : OpenClaim := { program := "ytpjcjdhidfnbbaagreat", sum := "fad3a7776ab21329f7818eadc06c1e5fd48189aad06515358facc69265a3da1f", func := "etalon/etalonlaw06.MeterSees", spec := "meterSees", inPlace := ["math.Float64bits", "math.Float64frombits", "math.archTrunc", "math.sqrt"], unfollowed := true, recurses := true, named := ["math/bits.divideError", "math/bits.overflowError"], apart := false, narrowed := true }
def MeterSeesUptoSaid : Prop := meterSeesUptoRow.holds Tryz.pinned (OpenSpec.upto meterSeesSpec)

/-- 'etalonlaw06.MeterCalibrated', WHERE WHAT IT READS IS OF BULK AT MOST 1048576: true; the input reads as it did. -/
def meterCalibratedUptoRow : OpenClaim := { program := "ytpjcjdhidfnbbaagreat", sum := "fad3a7776ab21329f7818eadc06c1e5fd48189aad06515358facc69265a3da1f", func := "etalon/etalonlaw06.MeterCalibrated", spec := "meterCalibrated", inPlace := ["math.Float64bits", "math.Float64frombits", "math.archTrunc", "math.sqrt"], unfollowed := true, recurses := true, named := ["math/bits.divideError", "math/bits.overflowError"], apart := false, narrowed := true }
def MeterCalibratedUptoSaid : Prop := meterCalibratedUptoRow.holds Tryz.pinned (OpenSpec.upto meterCalibratedSpec)

/-- 'etalonlaw06.MeterReads', WHERE WHAT IT READS IS OF BULK AT MOST 1048576: true; the input reads as it did. -/
def meterReadsUptoRow : OpenClaim := { program := "ytpjcjdhidfnbbaagreat", sum := "fad3a7776ab21329f7818eadc06c1e5fd48189aad06515358facc69265a3da1f", func := "etalon/etalonlaw06.MeterReads", spec := "meterReads", inPlace := ["math.Float64bits", "math.Float64frombits", "math.archTrunc", "math.sqrt"], unfollowed := true, recurses := true, named := ["math/bits.divideError", "math/bits.overflowError"], apart := false, narrowed := true }
def MeterReadsUptoSaid : Prop := meterReadsUptoRow.holds Tryz.pinned (OpenSpec.upto meterReadsSpec)

/-- 'etalonlaw06.MeterJudges', WHERE WHAT IT READS IS OF BULK AT MOST 1048576: true; the input reads as it did. -/
def meterJudgesUptoRow : OpenClaim := { program := "ytpjcjdhidfnbbaagreat", sum := "fad3a7776ab21329f7818eadc06c1e5fd48189aad06515358facc69265a3da1f", func := "etalon/etalonlaw06.MeterJudges", spec := "meterJudges", inPlace := ["math.Float64bits", "math.Float64frombits", "math.archTrunc", "math.sqrt"], unfollowed := true, recurses := true, named := ["math/bits.divideError", "math/bits.overflowError"], apart := false, narrowed := true }
def MeterJudgesUptoSaid : Prop := meterJudgesUptoRow.holds Tryz.pinned (OpenSpec.upto meterJudgesSpec)

end Rows
end Go.Proofs.YtpjcjdhidfnbbaaGreat
