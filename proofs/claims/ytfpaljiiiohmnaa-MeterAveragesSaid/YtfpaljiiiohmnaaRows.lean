/-
  No cell of these rows narrows 'for every input' (looked for: loops, veiled, ifaces, maps, wideKeys, modest, calm, conditions, laid).
  DERIVED. THE GIVEN ROWS OF THIS SEAT. 3 by the template 'for every input the law returns true; each argument reads behind the call as it read before'; 0 by the template 'total and deterministic' (their statements: YtfpaljiiiohmnaaTotals.lean).
  GIVEN WITH THE SEED: the statements are not yours to turn. If you find one false, say at which input.
  Laid BY PROGRAM, IN A SANDBOX (cutbox-rows.mjs): the forced cells as the released guide's own fill.sh prints them over the translation 2497a5ef0ec4e29a… (all of the seat's roots in one cut). By AI agents, Wed Nov 11 2026. No macro, syntax, notation, axiom, sorry.
-/
import Derived.Test.YtfpaljiiiohmnaaChecked
import GoSem.Claim
import GoSem.ClaimJoined
import GoSem.ClaimMapViews
import Derived.JoinedTies
import Derived.KernelRfl
namespace Go.Proofs.Ytfpaljiiiohmnaa
/- THE CELL 'sum', in the pinned program and in every row, IS THE sha256 OF THE DUMP (.gsa) THAT YtfpaljiiiohmnaaProg.lean LOADS. Nothing in Lean hashes anything: it is a label: what it is worth is what the hold of that sum in a sandbox is worth. -/
noncomputable def Try.pinned : Pinned := { name := "ytfpaljiiiohmnaa", sum := "2497a5ef0ec4e29a89744ab32e8184c7393768e298be94ce3461caffc5dbf2d5", checked := Try.checked }
namespace Rows
def none {H : Type} : Left H := { results := [], args := [] }

/-- 'etalonlaw06.MeterAverages': WHATEVER THE INPUT: true; the input reads as it did. -/
def meterAveragesSpec : ChangeSpec := { name := "meterAverages", fn := fun _ => fun
  | [d] => { results := [.lit (.bool true)], args := [d] }
  | _ => none }
def meterAveragesRow : OpenClaim := { program := "ytfpaljiiiohmnaa", sum := "2497a5ef0ec4e29a89744ab32e8184c7393768e298be94ce3461caffc5dbf2d5", func := "etalon/etalonlaw06.MeterAverages", spec := "meterAverages", inPlace := ["math.Float64bits", "math.Float64frombits", "math.archTrunc", "math.sqrt"], unfollowed := true, recurses := true, named := ["math/bits.divideError", "math/bits.overflowError"], apart := false }
def MeterAveragesSaid : Prop := meterAveragesRow.holds Try.pinned (OpenSpec.ofChange meterAveragesSpec)

/-- ITS FALSE NEIGHBOUR: 'it returns false'. Refute it at one input. -/
def meterAveragesWrong : ChangeSpec := { name := "meterAverages", fn := fun _ => fun
  | [d] => { results := [.lit (.bool false)], args := [d] }
  | _ => none }
def MeterAveragesWrongFalsely : Prop := meterAveragesRow.holds Try.pinned (OpenSpec.ofChange meterAveragesWrong)

/-- 'etalonlaw06.MeterBack': WHATEVER THE INPUT: true; the input reads as it did. -/
def meterBackSpec : ChangeSpec := { name := "meterBack", fn := fun _ => fun
  | [d] => { results := [.lit (.bool true)], args := [d] }
  | _ => none }
def meterBackRow : OpenClaim := { program := "ytfpaljiiiohmnaa", sum := "2497a5ef0ec4e29a89744ab32e8184c7393768e298be94ce3461caffc5dbf2d5", func := "etalon/etalonlaw06.MeterBack", spec := "meterBack", inPlace := ["math.Float64bits", "math.Float64frombits", "math.archTrunc", "math.sqrt"], unfollowed := true, recurses := true, named := ["math/bits.divideError", "math/bits.overflowError"], apart := false }
def MeterBackSaid : Prop := meterBackRow.holds Try.pinned (OpenSpec.ofChange meterBackSpec)

/-- ITS FALSE NEIGHBOUR: 'it returns false'. Refute it at one input. -/
def meterBackWrong : ChangeSpec := { name := "meterBack", fn := fun _ => fun
  | [d] => { results := [.lit (.bool false)], args := [d] }
  | _ => none }
def MeterBackWrongFalsely : Prop := meterBackRow.holds Try.pinned (OpenSpec.ofChange meterBackWrong)

/-- 'etalonlaw06.MeterTrue': WHATEVER THE INPUT: true; the input reads as it did. -/
def meterTrueSpec : ChangeSpec := { name := "meterTrue", fn := fun _ => fun
  | [d1, d2] => { results := [.lit (.bool true)], args := [d1, d2] }
  | _ => none }
def meterTrueRow : OpenClaim := { program := "ytfpaljiiiohmnaa", sum := "2497a5ef0ec4e29a89744ab32e8184c7393768e298be94ce3461caffc5dbf2d5", func := "etalon/etalonlaw06.MeterTrue", spec := "meterTrue", inPlace := ["math.Float64bits", "math.Float64frombits", "math.archTrunc", "math.sqrt"], unfollowed := true, recurses := true, named := ["math/bits.divideError", "math/bits.overflowError"], apart := false }
def MeterTrueSaid : Prop := meterTrueRow.holds Try.pinned (OpenSpec.ofChange meterTrueSpec)

/-- ITS FALSE NEIGHBOUR: 'it returns false'. Refute it at one input. -/
def meterTrueWrong : ChangeSpec := { name := "meterTrue", fn := fun _ => fun
  | [d1, d2] => { results := [.lit (.bool false)], args := [d1, d2] }
  | _ => none }
def MeterTrueWrongFalsely : Prop := meterTrueRow.holds Try.pinned (OpenSpec.ofChange meterTrueWrong)

/- THE SECOND FORM. 'bulk': how many values and letters a reading holds, each counted each time it is reached (what is shared counts as often as it is met; a slice's spare places count too). A statement '..UptoSaid' is the law's where the arguments, and the package variables that the reading takes, are together of bulk at most 1048576: NARROWER than '..Said'. Prove '..Said' where nothing that the law and all that it calls make is longer than what came in: it says more and counts as full. Else prove '..UptoSaid'. A law counts once. -/
mutual
def uptoBulk {H : Type} : DataW H → Nat
  | .lit (.string bytes) => bytes.length + 1
  | .lit _ => 1
  | .nil => 1
  | .ptr d => uptoBulk d + 1
  | .slice elems spare => uptoBulkAll elems + uptoBulkAll spare + 1
  | .agg parts => uptoBulkAll parts + 1
  | .iface _ d => uptoBulk d + 1
  | .map entries => uptoBulkEntries entries + 1
  | .held _ => 1
def uptoBulkAll {H : Type} : List (DataW H) → Nat
  | [] => 0
  | d :: r => uptoBulk d + uptoBulkAll r
def uptoBulkEntries {H : Type} : List (Lit × DataW H) → Nat
  | [] => 0
  | x :: r => uptoBulkEntry x + uptoBulkEntries r
def uptoBulkEntry {H : Type} : Lit × DataW H → Nat
  | (.string bytes, d) => bytes.length + uptoBulk d + 1
  | (_, d) => uptoBulk d + 1
 end
def uptoSmall : (H : Type) → List (DataW H) → Bool := fun _ ds => decide (uptoBulkAll ds ≤ 1048576)
def OpenSpec.upto (s : _root_.Go.ChangeSpec) : _root_.Go.OpenSpec := { _root_.Go.OpenSpec.ofChange s with cond := some uptoSmall }

/-- 'etalonlaw06.MeterAverages', WHERE WHAT IT READS IS OF BULK AT MOST 1048576: true; the input reads as it did. -/
def meterAveragesUptoRow : OpenClaim := { program := "ytfpaljiiiohmnaa", sum := "2497a5ef0ec4e29a89744ab32e8184c7393768e298be94ce3461caffc5dbf2d5", func := "etalon/etalonlaw06.MeterAverages", spec := "meterAverages", inPlace := ["math.Float64bits", "math.Float64frombits", "math.archTrunc", "math.sqrt"], unfollowed := true, recurses := true, named := ["math/bits.divideError", "math/bits.overflowError"], apart := false, narrowed := true }
def MeterAveragesUptoSaid : Prop := meterAveragesUptoRow.holds Try.pinned (OpenSpec.upto meterAveragesSpec)

/-- 'etalonlaw06.MeterBack', WHERE WHAT IT READS IS OF BULK AT MOST 1048576: true; the input reads as it did. -/
def meterBackUptoRow : OpenClaim := { program := "ytfpaljiiiohmnaa", sum := "2497a5ef0ec4e29a89744ab32e8184c7393768e298be94ce3461caffc5dbf2d5", func := "etalon/etalonlaw06.MeterBack", spec := "meterBack", inPlace := ["math.Float64bits", "math.Float64frombits", "math.archTrunc", "math.sqrt"], unfollowed := true, recurses := true, named := ["math/bits.divideError", "math/bits.overflowError"], apart := false, narrowed := true }
def MeterBackUptoSaid : Prop := meterBackUptoRow.holds Try.pinned (OpenSpec.upto meterBackSpec)

/-- 'etalonlaw06.MeterTrue', WHERE WHAT IT READS IS OF BULK AT MOST 1048576: true; the input reads as it did. -/
def meterTrueUptoRow : OpenClaim := { program := "ytfpaljiiiohmnaa", sum := "2497a5ef0ec4e29a89744ab32e8184c7393768e298be94ce3461caffc5dbf2d5", func := "etalon/etalonlaw06.MeterTrue", spec := "meterTrue", inPlace := ["math.Float64bits", "math.Float64frombits", "math.archTrunc", "math.sqrt"], unfollowed := true, recurses := true, named := ["math/bits.divideError", "math/bits.overflowError"], apart := false, narrowed := true }
def MeterTrueUptoSaid : Prop := meterTrueUptoRow.holds Try.pinned (OpenSpec.upto meterTrueSpec)

end Rows
end Go.Proofs.Ytfpaljiiiohmnaa
