/-
  No cell of these rows narrows 'for every input' (looked for: loops, veiled, ifaces, maps, wideKeys, modest, calm, conditions, laid).
  DERIVED. THE GIVEN ROWS OF THIS SEAT. 4 by the template 'for every input the law returns true; each argument reads behind the call as it read before'; 0 by the template 'total and deterministic' (their statements: YtfgdockgdbdoiaaGreatTotals.lean).
  GIVEN WITH THE SEED: the statements are not yours to turn. If you find one false, say at which input.
  Laid BY PROGRAM, IN A SANDBOX (cutbox-rows.mjs): the forced cells as the released guide's own fill.sh prints them over the translation fefa8126641502db… (all of the seat's roots in one cut). By AI agents, Wed Nov 11 2026. No macro, syntax, notation, axiom, sorry.
-/
import Derived.Test.YtfgdockgdbdoiaaGreatChecked
import GoSem.Claim
import GoSem.ClaimJoined
import GoSem.ClaimMapViews
import Derived.JoinedTies
import Derived.KernelRfl
namespace Go.Proofs.YtfgdockgdbdoiaaGreat
/- THE CELL 'sum', in the pinned program and in every row, IS THE sha256 OF THE DUMP (.gsa) THAT YtfgdockgdbdoiaaGreatProg.lean LOADS. Nothing in Lean hashes anything: it is a label: what it is worth is what the hold of that sum in a sandbox is worth. -/
noncomputable def Tryz.pinned : Pinned := { name := "ytfgdockgdbdoiaagreat", sum := "fefa8126641502db93d7196a246896d1f03e10d9d4659b00b1a04e4603d6ab1a", checked := Tryz.checked }
namespace Rows
def none {H : Type} : Left H := { results := [], args := [] }

/-- 'etalonlaw02.GlassIndices': WHATEVER THE INPUT: true; the input reads as it did. -/
def glassIndicesSpec : ChangeSpec := { name := "glassIndices", fn := fun _ => fun
  | [d1, d2] => { results := [.lit (.bool true)], args := [d1, d2] }
  | _ => none }
def glassIndicesRow : OpenClaim := { program := "ytfgdockgdbdoiaagreat", sum := "fefa8126641502db93d7196a246896d1f03e10d9d4659b00b1a04e4603d6ab1a", func := "etalon/etalonlaw02.GlassIndices", spec := "glassIndices", inPlace := ["math.sqrt", "math.Float64bits", "math.Float64frombits", "math.archTrunc"], unfollowed := true, recurses := true, named := ["math/bits.divideError", "math/bits.overflowError"], apart := false }
def GlassIndicesSaid : Prop := glassIndicesRow.holds Tryz.pinned (OpenSpec.ofChange glassIndicesSpec)

/-- ITS FALSE NEIGHBOUR: 'it returns false'. Refute it at one input. -/
def glassIndicesWrong : ChangeSpec := { name := "glassIndices", fn := fun _ => fun
  | [d1, d2] => { results := [.lit (.bool false)], args := [d1, d2] }
  | _ => none }
def GlassIndicesWrongFalsely : Prop := glassIndicesRow.holds Tryz.pinned (OpenSpec.ofChange glassIndicesWrong)

/-- 'etalonlaw02.GlassAbbe': WHATEVER THE INPUT: true; the input reads as it did. -/
def glassAbbeSpec : ChangeSpec := { name := "glassAbbe", fn := fun _ => fun
  | [d] => { results := [.lit (.bool true)], args := [d] }
  | _ => none }
def glassAbbeRow : OpenClaim := { program := "ytfgdockgdbdoiaagreat", sum := "fefa8126641502db93d7196a246896d1f03e10d9d4659b00b1a04e4603d6ab1a", func := "etalon/etalonlaw02.GlassAbbe", spec := "glassAbbe", inPlace := ["math.sqrt", "math.Float64bits", "math.Float64frombits", "math.archTrunc"], unfollowed := true, recurses := true, named := ["math/bits.divideError", "math/bits.overflowError"], apart := false }
def GlassAbbeSaid : Prop := glassAbbeRow.holds Tryz.pinned (OpenSpec.ofChange glassAbbeSpec)

/-- ITS FALSE NEIGHBOUR: 'it returns false'. Refute it at one input. -/
def glassAbbeWrong : ChangeSpec := { name := "glassAbbe", fn := fun _ => fun
  | [d] => { results := [.lit (.bool false)], args := [d] }
  | _ => none }
def GlassAbbeWrongFalsely : Prop := glassAbbeRow.holds Tryz.pinned (OpenSpec.ofChange glassAbbeWrong)

/-- 'etalonlaw02.GlassBetween': WHATEVER THE INPUT: true; the input reads as it did. -/
def glassBetweenSpec : ChangeSpec := { name := "glassBetween", fn := fun _ => fun
  | [d1, d2] => { results := [.lit (.bool true)], args := [d1, d2] }
  | _ => none }
def glassBetweenRow : OpenClaim := { program := "ytfgdockgdbdoiaagreat", sum := "fefa8126641502db93d7196a246896d1f03e10d9d4659b00b1a04e4603d6ab1a", func := "etalon/etalonlaw02.GlassBetween", spec := "glassBetween", inPlace := ["math.sqrt", "math.Float64bits", "math.Float64frombits", "math.archTrunc"], unfollowed := true, recurses := true, named := ["math/bits.divideError", "math/bits.overflowError"], apart := false }
def GlassBetweenSaid : Prop := glassBetweenRow.holds Tryz.pinned (OpenSpec.ofChange glassBetweenSpec)

/-- ITS FALSE NEIGHBOUR: 'it returns false'. Refute it at one input. -/
def glassBetweenWrong : ChangeSpec := { name := "glassBetween", fn := fun _ => fun
  | [d1, d2] => { results := [.lit (.bool false)], args := [d1, d2] }
  | _ => none }
def GlassBetweenWrongFalsely : Prop := glassBetweenRow.holds Tryz.pinned (OpenSpec.ofChange glassBetweenWrong)

/-- 'etalonlaw02.GlassWithin': WHATEVER THE INPUT: true; the input reads as it did. -/
def glassWithinSpec : ChangeSpec := { name := "glassWithin", fn := fun _ => fun
  | [d1, d2, d3] => { results := [.lit (.bool true)], args := [d1, d2, d3] }
  | _ => none }
def glassWithinRow : OpenClaim := { program := "ytfgdockgdbdoiaagreat", sum := "fefa8126641502db93d7196a246896d1f03e10d9d4659b00b1a04e4603d6ab1a", func := "etalon/etalonlaw02.GlassWithin", spec := "glassWithin", inPlace := ["math.sqrt", "math.Float64bits", "math.Float64frombits", "math.archTrunc"], unfollowed := true, recurses := true, named := ["math/bits.divideError", "math/bits.overflowError"], apart := false }
def GlassWithinSaid : Prop := glassWithinRow.holds Tryz.pinned (OpenSpec.ofChange glassWithinSpec)

/-- ITS FALSE NEIGHBOUR: 'it returns false'. Refute it at one input. -/
def glassWithinWrong : ChangeSpec := { name := "glassWithin", fn := fun _ => fun
  | [d1, d2, d3] => { results := [.lit (.bool false)], args := [d1, d2, d3] }
  | _ => none }
def GlassWithinWrongFalsely : Prop := glassWithinRow.holds Tryz.pinned (OpenSpec.ofChange glassWithinWrong)

/- THE SECOND FORM. 'bulk': how many values and letters a reading holds, each counted each time it is reached (what is shared counts as often as it is met; a slice's spare places count too). A statement '..UptoSaid' is the law's where the arguments, and the package variables that the reading takes, are together of bulk at most 1048576: NARROWER than '..Said'. Prove '..Said' where nothing that the law and all that it calls make is longer than what came in: it says more and counts as full. Else prove '..UptoSaid'. A law counts once. -/
mutual
def uptoBulk {H : Type} : DataW H → Nat
  | .lit (.string bytes) => bytes.length + 1
  | .lit _ => 1
  | .nil => 1
  | .ptr d => uptoBulk d + 1
  | .slice elems spare => uptoBulkAll elems + uptoBulkAll spare + 1
  | .agg parts => uptoBulkAll parts + 1
  | .iface _ d => uptoBulk d + 1
  | .map entries => uptoBulkEntries entries + 1
  | .held _ => 1
def uptoBulkAll {H : Type} : List (DataW H) → Nat
  | [] => 0
  | d :: r => uptoBulk d + uptoBulkAll r
def uptoBulkEntries {H : Type} : List (Lit × DataW H) → Nat
  | [] => 0
  | x :: r => uptoBulkEntry x + uptoBulkEntries r
def uptoBulkEntry {H : Type} : Lit × DataW H → Nat
  | (.string bytes, d) => bytes.length + uptoBulk d + 1
  | (_, d) => uptoBulk d + 1
 end
def uptoSmall : (H : Type) → List (DataW H) → Bool := fun _ ds => decide (uptoBulkAll ds ≤ 1048576)
def OpenSpec.upto (s : _root_.Go.ChangeSpec) : _root_.Go.OpenSpec := { _root_.Go.OpenSpec.ofChange s with cond := some uptoSmall }

/-- 'etalonlaw02.GlassIndices', WHERE WHAT IT READS IS OF BULK AT MOST 1048576: true; the input reads as it did. -/
def glassIndicesUptoRow : OpenClaim := { program := "ytfgdockgdbdoiaagreat", sum := "fefa8126641502db93d7196a246896d1f03e10d9d4659b00b1a04e4603d6ab1a", func := "etalon/etalonlaw02.GlassIndices", spec := "glassIndices", inPlace := ["math.sqrt", "math.Float64bits", "math.Float64frombits", "math.archTrunc"], unfollowed := true, recurses := true, named := ["math/bits.divideError", "math/bits.overflowError"], apart := false, narrowed := true }
def GlassIndicesUptoSaid : Prop := glassIndicesUptoRow.holds Tryz.pinned (OpenSpec.upto glassIndicesSpec)

/-- 'etalonlaw02.GlassAbbe', WHERE WHAT IT READS IS OF BULK AT MOST 1048576: true; the input reads as it did. -/
def glassAbbeUptoRow : OpenClaim := { program := "ytfgdockgdbdoiaagreat", sum := "fefa8126641502db93d7196a246896d1f03e10d9d4659b00b1a04e4603d6ab1a", func := "etalon/etalonlaw02.GlassAbbe", spec := "glassAbbe", inPlace := ["math.sqrt", "math.Float64bits", "math.Float64frombits", "math.archTrunc"], unfollowed := true, recurses := true, named := ["math/bits.divideError", "math/bits.overflowError"], apart := false, narrowed := true }
def GlassAbbeUptoSaid : Prop := glassAbbeUptoRow.holds Tryz.pinned (OpenSpec.upto glassAbbeSpec)

/-- 'etalonlaw02.GlassBetween', WHERE WHAT IT READS IS OF BULK AT MOST 1048576: true; the input reads as it did. -/
def glassBetweenUptoRow : OpenClaim := { program := "ytfgdockgdbdoiaagreat", sum := "fefa8126641502db93d7196a246896d1f03e10d9d4659b00b1a04e4603d6ab1a", func := "etalon/etalonlaw02.GlassBetween", spec := "glassBetween", inPlace := ["math.sqrt", "math.Float64bits", "math.Float64frombits", "math.archTrunc"], unfollowed := true, recurses := true, named := ["math/bits.divideError", "math/bits.overflowError"], apart := false, narrowed := true }
def GlassBetweenUptoSaid : Prop := glassBetweenUptoRow.holds Tryz.pinned (OpenSpec.upto glassBetweenSpec)

/-- 'etalonlaw02.GlassWithin', WHERE WHAT IT READS IS OF BULK AT MOST 1048576: true; the input reads as it did. -/
def glassWithinUptoRow : OpenClaim := { program := "ytfgdockgdbdoiaagreat", sum := "fefa8126641502db93d7196a246896d1f03e10d9d4659b00b1a04e4603d6ab1a", func := "etalon/etalonlaw02.GlassWithin", spec := "glassWithin", inPlace := ["math.sqrt", "math.Float64bits", "math.Float64frombits", "math.archTrunc"], unfollowed := true, recurses := true, named := ["math/bits.divideError", "math/bits.overflowError"], apart := false, narrowed := true }
def GlassWithinUptoSaid : Prop := glassWithinUptoRow.holds Tryz.pinned (OpenSpec.upto glassWithinSpec)

end Rows
end Go.Proofs.YtfgdockgdbdoiaaGreat
