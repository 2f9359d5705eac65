/-
  No cell of these rows narrows 'for every input' (looked for: loops, veiled, ifaces, maps, wideKeys, modest, calm, conditions, laid).
  DERIVED. THE GIVEN ROWS OF THIS SEAT. 4 by the template 'for every input the law returns true; each argument reads behind the call as it read before'; 0 by the template 'total and deterministic' (their statements: YtafnplkablkepaaTotals.lean).
  GIVEN WITH THE SEED: the statements are not yours to turn. If you find one false, say at which input.
  Laid BY PROGRAM, IN A SANDBOX (cutbox-rows.mjs): the forced cells as the released guide's own fill.sh prints them over the translation 50006df343a41d5a… (all of the seat's roots in one cut). By AI agents, Wed Nov 11 2026. No macro, syntax, notation, axiom, sorry.
-/
import Derived.Test.YtafnplkablkepaaChecked
import GoSem.Claim
import GoSem.ClaimJoined
import GoSem.ClaimMapViews
import Derived.JoinedTies
import Derived.KernelRfl
namespace Go.Proofs.Ytafnplkablkepaa
/- THE CELL 'sum', in the pinned program and in every row, IS THE sha256 OF THE DUMP (.gsa) THAT YtafnplkablkepaaProg.lean LOADS. Nothing in Lean hashes anything: it is a label: what it is worth is what the hold of that sum in a sandbox is worth. -/
noncomputable def Try.pinned : Pinned := { name := "ytafnplkablkepaa", sum := "50006df343a41d5a4881ecf8475ddf27d60af800392119c8d6cde8f43b91278c", checked := Try.checked }
namespace Rows
def none {H : Type} : Left H := { results := [], args := [] }

/-- 'etalonlaw06.MeterScans': WHATEVER THE INPUT: true; the input reads as it did. -/
def meterScansSpec : ChangeSpec := { name := "meterScans", fn := fun _ => fun
  | [d] => { results := [.lit (.bool true)], args := [d] }
  | _ => none }
def meterScansRow : OpenClaim := { program := "ytafnplkablkepaa", sum := "50006df343a41d5a4881ecf8475ddf27d60af800392119c8d6cde8f43b91278c", func := "etalon/etalonlaw06.MeterScans", spec := "meterScans", inPlace := ["math.Float64bits", "math.Float64frombits", "math.archTrunc", "math.sqrt"], unfollowed := true, recurses := true, named := ["math/bits.divideError", "math/bits.overflowError"], apart := false }
def MeterScansSaid : Prop := meterScansRow.holds Try.pinned (OpenSpec.ofChange meterScansSpec)

/-- ITS FALSE NEIGHBOUR: 'it returns false'. Refute it at one input. -/
def meterScansWrong : ChangeSpec := { name := "meterScans", fn := fun _ => fun
  | [d] => { results := [.lit (.bool false)], args := [d] }
  | _ => none }
def MeterScansWrongFalsely : Prop := meterScansRow.holds Try.pinned (OpenSpec.ofChange meterScansWrong)

/-- 'etalonlaw06.MeterHarmonics': WHATEVER THE INPUT: true; the input reads as it did. -/
def meterHarmonicsSpec : ChangeSpec := { name := "meterHarmonics", fn := fun _ => fun
  | [d] => { results := [.lit (.bool true)], args := [d] }
  | _ => none }
def meterHarmonicsRow : OpenClaim := { program := "ytafnplkablkepaa", sum := "50006df343a41d5a4881ecf8475ddf27d60af800392119c8d6cde8f43b91278c", func := "etalon/etalonlaw06.MeterHarmonics", spec := "meterHarmonics", inPlace := ["math.Float64bits", "math.Float64frombits", "math.archTrunc", "math.sqrt"], unfollowed := true, recurses := true, named := ["math/bits.divideError", "math/bits.overflowError"], apart := false }
def MeterHarmonicsSaid : Prop := meterHarmonicsRow.holds Try.pinned (OpenSpec.ofChange meterHarmonicsSpec)

/-- ITS FALSE NEIGHBOUR: 'it returns false'. Refute it at one input. -/
def meterHarmonicsWrong : ChangeSpec := { name := "meterHarmonics", fn := fun _ => fun
  | [d] => { results := [.lit (.bool false)], args := [d] }
  | _ => none }
def MeterHarmonicsWrongFalsely : Prop := meterHarmonicsRow.holds Try.pinned (OpenSpec.ofChange meterHarmonicsWrong)

/-- 'etalonlaw06.MeterQuantises': WHATEVER THE INPUT: true; the input reads as it did. -/
def meterQuantisesSpec : ChangeSpec := { name := "meterQuantises", fn := fun _ => fun
  | [d1, d2] => { results := [.lit (.bool true)], args := [d1, d2] }
  | _ => none }
def meterQuantisesRow : OpenClaim := { program := "ytafnplkablkepaa", sum := "50006df343a41d5a4881ecf8475ddf27d60af800392119c8d6cde8f43b91278c", func := "etalon/etalonlaw06.MeterQuantises", spec := "meterQuantises", inPlace := ["math.Float64bits", "math.Float64frombits", "math.archTrunc", "math.sqrt", "math.Float32bits"], unfollowed := true, recurses := true, named := ["math/bits.divideError", "math/bits.overflowError"], apart := false }
def MeterQuantisesSaid : Prop := meterQuantisesRow.holds Try.pinned (OpenSpec.ofChange meterQuantisesSpec)

/-- ITS FALSE NEIGHBOUR: 'it returns false'. Refute it at one input. -/
def meterQuantisesWrong : ChangeSpec := { name := "meterQuantises", fn := fun _ => fun
  | [d1, d2] => { results := [.lit (.bool false)], args := [d1, d2] }
  | _ => none }
def MeterQuantisesWrongFalsely : Prop := meterQuantisesRow.holds Try.pinned (OpenSpec.ofChange meterQuantisesWrong)

/-- 'etalonlaw06.MeterLocks': WHATEVER THE INPUT: true; the input reads as it did. -/
def meterLocksSpec : ChangeSpec := { name := "meterLocks", fn := fun _ => fun
  | [d1, d2, d3] => { results := [.lit (.bool true)], args := [d1, d2, d3] }
  | _ => none }
def meterLocksRow : OpenClaim := { program := "ytafnplkablkepaa", sum := "50006df343a41d5a4881ecf8475ddf27d60af800392119c8d6cde8f43b91278c", func := "etalon/etalonlaw06.MeterLocks", spec := "meterLocks", inPlace := ["math.Float64bits", "math.Float64frombits", "math.archTrunc", "math.sqrt"], unfollowed := true, recurses := true, named := ["math/bits.divideError", "math/bits.overflowError"], apart := false }
def MeterLocksSaid : Prop := meterLocksRow.holds Try.pinned (OpenSpec.ofChange meterLocksSpec)

/-- ITS FALSE NEIGHBOUR: 'it returns false'. Refute it at one input. -/
def meterLocksWrong : ChangeSpec := { name := "meterLocks", fn := fun _ => fun
  | [d1, d2, d3] => { results := [.lit (.bool false)], args := [d1, d2, d3] }
  | _ => none }
def MeterLocksWrongFalsely : Prop := meterLocksRow.holds Try.pinned (OpenSpec.ofChange meterLocksWrong)

/- THE SECOND FORM. 'bulk': how many values and letters a reading holds, each counted each time it is reached (what is shared counts as often as it is met; a slice's spare places count too). A statement '..UptoSaid' is the law's where the arguments, and the package variables that the reading takes, are together of bulk at most 1048576: NARROWER than '..Said'. Prove '..Said' where nothing that the law and all that it calls make is longer than what came in: it says more and counts as full. Else prove '..UptoSaid'. A law counts once. -/
mutual
def uptoBulk {H : Type} : DataW H → Nat
  | .lit (.string bytes) => bytes.length + 1
  | .lit _ => 1
  | .nil => 1
  | .ptr d => uptoBulk d + 1
  | .slice elems spare => uptoBulkAll elems + uptoBulkAll spare + 1
  | .agg parts => uptoBulkAll parts + 1
  | .iface _ d => uptoBulk d + 1
  | .map entries => uptoBulkEntries entries + 1
  | .held _ => 1
def uptoBulkAll {H : Type} : List (DataW H) → Nat
  | [] => 0
  | d :: r => uptoBulk d + uptoBulkAll r
def uptoBulkEntries {H : Type} : List (Lit × DataW H) → Nat
  | [] => 0
  | x :: r => uptoBulkEntry x + uptoBulkEntries r
def uptoBulkEntry {H : Type} : Lit × DataW H → Nat
  | (.string bytes, d) => bytes.length + uptoBulk d + 1
  | (_, d) => uptoBulk d + 1
 end
def uptoSmall : (H : Type) → List (DataW H) → Bool := fun _ ds => decide (uptoBulkAll ds ≤ 1048576)
def OpenSpec.upto (s : _root_.Go.ChangeSpec) : _root_.Go.OpenSpec := { _root_.Go.OpenSpec.ofChange s with cond := some uptoSmall }

/-- 'etalonlaw06.MeterScans', WHERE WHAT IT READS IS OF BULK AT MOST 1048576: true; the input reads as it did. -/
def meterScansUptoRow : OpenClaim := { program := "ytafnplkablkepaa", sum := "50006df343a41d5a4881ecf8475ddf27d60af800392119c8d6cde8f43b91278c", func := "etalon/etalonlaw06.MeterScans", spec := "meterScans", inPlace := ["math.Float64bits", "math.Float64frombits", "math.archTrunc", "math.sqrt"], unfollowed := true, recurses := true, named := ["math/bits.divideError", "math/bits.overflowError"], apart := false, narrowed := true }
def MeterScansUptoSaid : Prop := meterScansUptoRow.holds Try.pinned (OpenSpec.upto meterScansSpec)

/-- 'etalonlaw06.MeterHarmonics', WHERE WHAT IT READS IS OF BULK AT MOST 1048576: true; the input reads as it did. -/
def meterHarmonicsUptoRow : OpenClaim := { program := "ytafnplkablkepaa", sum := "50006df343a41d5a4881ecf8475ddf27d60af800392119c8d6cde8f43b91278c", func := "etalon/etalonlaw06.MeterHarmonics", spec := "meterHarmonics", inPlace := ["math.Float64bits", "math.Float64frombits", "math.archTrunc", "math.sqrt"], unfollowed := true, recurses := true, named := ["math/bits.divideError", "math/bits.overflowError"], apart := false, narrowed := true }
def MeterHarmonicsUptoSaid : Prop := meterHarmonicsUptoRow.holds Try.pinned (OpenSpec.upto meterHarmonicsSpec)

/-- 'etalonlaw06.MeterQuantises', WHERE WHAT IT READS IS OF BULK AT MOST 1048576: true; the input reads as it did. -/
def meterQuantisesUptoRow : OpenClaim := { program := "ytafnplkablkepaa", sum := "50006df343a41d5a4881ecf8475ddf27d60af800392119c8d6cde8f43b91278c", func := "etalon/etalonlaw06.MeterQuantises", spec := "meterQuantises", inPlace := ["math.Float64bits", "math.Float64frombits", "math.archTrunc", "math.sqrt", "math.Float32bits"], unfollowed := true, recurses := true, named := ["math/bits.divideError", "math/bits.overflowError"], apart := false, narrowed := true }
def MeterQuantisesUptoSaid : Prop := meterQuantisesUptoRow.holds Try.pinned (OpenSpec.upto meterQuantisesSpec)

/-- 'etalonlaw06.MeterLocks', WHERE WHAT IT READS IS OF BULK AT MOST 1048576: true; the input reads as it did. -/
def meterLocksUptoRow : OpenClaim := { program := "ytafnplkablkepaa", sum := "50006df343a41d5a4881ecf8475ddf27d60af800392119c8d6cde8f43b91278c", func := "etalon/etalonlaw06.MeterLocks", spec := "meterLocks", inPlace := ["math.Float64bits", "math.Float64frombits", "math.archTrunc", "math.sqrt"], unfollowed := true, recurses := true, named := ["math/bits.divideError", "math/bits.overflowError"], apart := false, narrowed := true }
def MeterLocksUptoSaid : Prop := meterLocksUptoRow.holds Try.pinned (OpenSpec.upto meterLocksSpec)

end Rows
end Go.Proofs.Ytafnplkablkepaa
