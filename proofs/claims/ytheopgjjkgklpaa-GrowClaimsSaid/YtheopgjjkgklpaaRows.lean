/-
  No cell of these rows narrows 'for every input' (looked for: loops, veiled, ifaces, maps, wideKeys, modest, calm, conditions, laid).
  DERIVED. THE GIVEN ROWS OF THIS SEAT. 5 by the template 'for every input the law returns true; each argument reads behind the call as it read before'; 0 by the template 'total and deterministic' (their statements: YtheopgjjkgklpaaTotals.lean).
  GIVEN WITH THE SEED: the statements are not yours to turn. If you find one false, say at which input.
  Laid BY PROGRAM, IN A SANDBOX (cutbox-rows.mjs): the forced cells as the released guide's own fill.sh prints them over the translation 420ae641865bfa93… (all of the seat's roots in one cut). By AI agents, Wed Nov 11 2026. No macro, syntax, notation, axiom, sorry.
-/
import Derived.Test.YtheopgjjkgklpaaChecked
import GoSem.Claim
import GoSem.ClaimJoined
import GoSem.ClaimMapViews
import Derived.JoinedTies
import Derived.KernelRfl
namespace Go.Proofs.Ytheopgjjkgklpaa
/- THE CELL 'sum', in the pinned program and in every row, IS THE sha256 OF THE DUMP (.gsa) THAT YtheopgjjkgklpaaProg.lean LOADS. Nothing in Lean hashes anything: it is a label: what it is worth is what the hold of that sum in a sandbox is worth. -/
noncomputable def Try.pinned : Pinned := { name := "ytheopgjjkgklpaa", sum := "420ae641865bfa93274b1ddbbcf8eb053929a9e81a0838406ecccd83b85c78ae", checked := Try.checked }
namespace Rows
def none {H : Type} : Left H := { results := [], args := [] }

/-- 'etalonlaw08.GrowChambers': WHATEVER THE INPUT: true; the input reads as it did. -/
def growChambersSpec : ChangeSpec := { name := "growChambers", fn := fun _ => fun
  | [d1, d2, d3] => { results := [.lit (.bool true)], args := [d1, d2, d3] }
  | _ => none }
def growChambersRow : OpenClaim := { program := "ytheopgjjkgklpaa", sum := "420ae641865bfa93274b1ddbbcf8eb053929a9e81a0838406ecccd83b85c78ae", func := "etalon/etalonlaw08.GrowChambers", spec := "growChambers", inPlace := ["math.Float64bits", "math.Float64frombits", "math.archTrunc"], unfollowed := true, recurses := true, named := ["math/bits.divideError", "math/bits.overflowError"], apart := false }
def GrowChambersSaid : Prop := growChambersRow.holds Try.pinned (OpenSpec.ofChange growChambersSpec)

/-- ITS FALSE NEIGHBOUR: 'it returns false'. Refute it at one input. -/
def growChambersWrong : ChangeSpec := { name := "growChambers", fn := fun _ => fun
  | [d1, d2, d3] => { results := [.lit (.bool false)], args := [d1, d2, d3] }
  | _ => none }
def GrowChambersWrongFalsely : Prop := growChambersRow.holds Try.pinned (OpenSpec.ofChange growChambersWrong)

/-- 'etalonlaw08.GrowBack': WHATEVER THE INPUT: true; the input reads as it did. -/
def growBackSpec : ChangeSpec := { name := "growBack", fn := fun _ => fun
  | [d1, d2, d3] => { results := [.lit (.bool true)], args := [d1, d2, d3] }
  | _ => none }
def growBackRow : OpenClaim := { program := "ytheopgjjkgklpaa", sum := "420ae641865bfa93274b1ddbbcf8eb053929a9e81a0838406ecccd83b85c78ae", func := "etalon/etalonlaw08.GrowBack", spec := "growBack", inPlace := ["math.Float64bits", "math.Float64frombits", "math.archTrunc"], unfollowed := true, recurses := true, named := ["math/bits.divideError", "math/bits.overflowError"], apart := false }
def GrowBackSaid : Prop := growBackRow.holds Try.pinned (OpenSpec.ofChange growBackSpec)

/-- ITS FALSE NEIGHBOUR: 'it returns false'. Refute it at one input. -/
def growBackWrong : ChangeSpec := { name := "growBack", fn := fun _ => fun
  | [d1, d2, d3] => { results := [.lit (.bool false)], args := [d1, d2, d3] }
  | _ => none }
def GrowBackWrongFalsely : Prop := growBackRow.holds Try.pinned (OpenSpec.ofChange growBackWrong)

/-- 'etalonlaw08.GrowClaims': WHATEVER THE INPUT: true; the input reads as it did. -/
def growClaimsSpec : ChangeSpec := { name := "growClaims", fn := fun _ => fun
  | [d1, d2, d3] => { results := [.lit (.bool true)], args := [d1, d2, d3] }
  | _ => none }
def growClaimsRow : OpenClaim := { program := "ytheopgjjkgklpaa", sum := "420ae641865bfa93274b1ddbbcf8eb053929a9e81a0838406ecccd83b85c78ae", func := "etalon/etalonlaw08.GrowClaims", spec := "growClaims", inPlace := ["math.Float64bits", "math.Float64frombits", "math.archTrunc"], unfollowed := true, recurses := true, named := ["math/bits.divideError", "math/bits.overflowError"], apart := false }
def GrowClaimsSaid : Prop := growClaimsRow.holds Try.pinned (OpenSpec.ofChange growClaimsSpec)

/-- ITS FALSE NEIGHBOUR: 'it returns false'. Refute it at one input. -/
def growClaimsWrong : ChangeSpec := { name := "growClaims", fn := fun _ => fun
  | [d1, d2, d3] => { results := [.lit (.bool false)], args := [d1, d2, d3] }
  | _ => none }
def GrowClaimsWrongFalsely : Prop := growClaimsRow.holds Try.pinned (OpenSpec.ofChange growClaimsWrong)

/-- 'etalonlaw08.GrowSequences': WHATEVER THE INPUT: true; the input reads as it did. -/
def growSequencesSpec : ChangeSpec := { name := "growSequences", fn := fun _ => fun
  | [d1, d2] => { results := [.lit (.bool true)], args := [d1, d2] }
  | _ => none }
def growSequencesRow : OpenClaim := { program := "ytheopgjjkgklpaa", sum := "420ae641865bfa93274b1ddbbcf8eb053929a9e81a0838406ecccd83b85c78ae", func := "etalon/etalonlaw08.GrowSequences", spec := "growSequences", inPlace := ["math.Float64bits", "math.Float64frombits", "math.archTrunc"], unfollowed := true, recurses := true, named := ["math/bits.divideError", "math/bits.overflowError"], apart := false }
def GrowSequencesSaid : Prop := growSequencesRow.holds Try.pinned (OpenSpec.ofChange growSequencesSpec)

/-- ITS FALSE NEIGHBOUR: 'it returns false'. Refute it at one input. -/
def growSequencesWrong : ChangeSpec := { name := "growSequences", fn := fun _ => fun
  | [d1, d2] => { results := [.lit (.bool false)], args := [d1, d2] }
  | _ => none }
def GrowSequencesWrongFalsely : Prop := growSequencesRow.holds Try.pinned (OpenSpec.ofChange growSequencesWrong)

/-- 'etalontop.TopNoSourceOpens': WHATEVER THE INPUT: true; the input reads as it did. -/
def topNoSourceOpensSpec : ChangeSpec := { name := "topNoSourceOpens", fn := fun _ => fun
  | [d1, d2, d3] => { results := [.lit (.bool true)], args := [d1, d2, d3] }
  | _ => none }
def topNoSourceOpensRow : OpenClaim := { program := "ytheopgjjkgklpaa", sum := "420ae641865bfa93274b1ddbbcf8eb053929a9e81a0838406ecccd83b85c78ae", func := "etalon/etalontop.TopNoSourceOpens", spec := "topNoSourceOpens", unfollowed := true, recurses := true, apart := false }
def TopNoSourceOpensSaid : Prop := topNoSourceOpensRow.holds Try.pinned (OpenSpec.ofChange topNoSourceOpensSpec)

/-- ITS FALSE NEIGHBOUR: 'it returns false'. Refute it at one input. -/
def topNoSourceOpensWrong : ChangeSpec := { name := "topNoSourceOpens", fn := fun _ => fun
  | [d1, d2, d3] => { results := [.lit (.bool false)], args := [d1, d2, d3] }
  | _ => none }
def TopNoSourceOpensWrongFalsely : Prop := topNoSourceOpensRow.holds Try.pinned (OpenSpec.ofChange topNoSourceOpensWrong)

/- THE SECOND FORM. 'bulk': how many values and letters a reading holds, each counted each time it is reached (what is shared counts as often as it is met; a slice's spare places count too). A statement '..UptoSaid' is the law's where the arguments, and the package variables that the reading takes, are together of bulk at most 1048576: NARROWER than '..Said'. Prove '..Said' where nothing that the law and all that it calls make is longer than what came in: it says more and counts as full. Else prove '..UptoSaid'. A law counts once. -/
mutual
def uptoBulk {H : Type} : DataW H → Nat
  | .lit (.string bytes) => bytes.length + 1
  | .lit _ => 1
  | .nil => 1
  | .ptr d => uptoBulk d + 1
  | .slice elems spare => uptoBulkAll elems + uptoBulkAll spare + 1
  | .agg parts => uptoBulkAll parts + 1
  | .iface _ d => uptoBulk d + 1
  | .map entries => uptoBulkEntries entries + 1
  | .held _ => 1
def uptoBulkAll {H : Type} : List (DataW H) → Nat
  | [] => 0
  | d :: r => uptoBulk d + uptoBulkAll r
def uptoBulkEntries {H : Type} : List (Lit × DataW H) → Nat
  | [] => 0
  | x :: r => uptoBulkEntry x + uptoBulkEntries r
def uptoBulkEntry {H : Type} : Lit × DataW H → Nat
  | (.string bytes, d) => bytes.length + uptoBulk d + 1
  | (_, d) => uptoBulk d + 1
 end
def uptoSmall : (H : Type) → List (DataW H) → Bool := fun _ ds => decide (uptoBulkAll ds ≤ 1048576)
def OpenSpec.upto (s : _root_.Go.ChangeSpec) : _root_.Go.OpenSpec := { _root_.Go.OpenSpec.ofChange s with cond := some uptoSmall }

/-- 'etalonlaw08.GrowChambers', WHERE WHAT IT READS IS OF BULK AT MOST 1048576: true; the input reads as it did. -/
def growChambersUptoRow : OpenClaim := { program := "ytheopgjjkgklpaa", sum := "420ae641865bfa93274b1ddbbcf8eb053929a9e81a0838406ecccd83b85c78ae", func := "etalon/etalonlaw08.GrowChambers", spec := "growChambers", inPlace := ["math.Float64bits", "math.Float64frombits", "math.archTrunc"], unfollowed := true, recurses := true, named := ["math/bits.divideError", "math/bits.overflowError"], apart := false, narrowed := true }
def GrowChambersUptoSaid : Prop := growChambersUptoRow.holds Try.pinned (OpenSpec.upto growChambersSpec)

/-- 'etalonlaw08.GrowBack', WHERE WHAT IT READS IS OF BULK AT MOST 1048576: true; the input reads as it did. -/
def growBackUptoRow : OpenClaim := { program := "ytheopgjjkgklpaa", sum := "420ae641865bfa93274b1ddbbcf8eb053929a9e81a0838406ecccd83b85c78ae", func := "etalon/etalonlaw08.GrowBack", spec := "growBack", inPlace := ["math.Float64bits", "math.Float64frombits", "math.archTrunc"], unfollowed := true, recurses := true, named := ["math/bits.divideError", "math/bits.overflowError"], apart := false, narrowed := true }
def GrowBackUptoSaid : Prop := growBackUptoRow.holds Try.pinned (OpenSpec.upto growBackSpec)

/-- 'etalonlaw08.GrowClaims', WHERE WHAT IT READS IS OF BULK AT MOST 1048576: true; the input reads as it did. -/
def growClaimsUptoRow : OpenClaim := { program := "ytheopgjjkgklpaa", sum := "420ae641865bfa93274b1ddbbcf8eb053929a9e81a0838406ecccd83b85c78ae", func := "etalon/etalonlaw08.GrowClaims", spec := "growClaims", inPlace := ["math.Float64bits", "math.Float64frombits", "math.archTrunc"], unfollowed := true, recurses := true, named := ["math/bits.divideError", "math/bits.overflowError"], apart := false, narrowed := true }
def GrowClaimsUptoSaid : Prop := growClaimsUptoRow.holds Try.pinned (OpenSpec.upto growClaimsSpec)

/-- 'etalonlaw08.GrowSequences', WHERE WHAT IT READS IS OF BULK AT MOST 1048576: true; the input reads as it did. -/
def growSequencesUptoRow : OpenClaim := { program := "ytheopgjjkgklpaa", sum := "420ae641865bfa93274b1ddbbcf8eb053929a9e81a0838406ecccd83b85c78ae", func := "etalon/etalonlaw08.GrowSequences", spec := "growSequences", inPlace := ["math.Float64bits", "math.Float64frombits", "math.archTrunc"], unfollowed := true, recurses := true, named := ["math/bits.divideError", "math/bits.overflowError"], apart := false, narrowed := true }
def GrowSequencesUptoSaid : Prop := growSequencesUptoRow.holds Try.pinned (OpenSpec.upto growSequencesSpec)

/-- 'etalontop.TopNoSourceOpens', WHERE WHAT IT READS IS OF BULK AT MOST 1048576: true; the input reads as it did. -/
def topNoSourceOpensUptoRow : OpenClaim := { program := "ytheopgjjkgklpaa", sum := "420ae641865bfa93274b1ddbbcf8eb053929a9e81a0838406ecccd83b85c78ae", func := "etalon/etalontop.TopNoSourceOpens", spec := "topNoSourceOpens", unfollowed := true, recurses := true, apart := false, narrowed := true }
def TopNoSourceOpensUptoSaid : Prop := topNoSourceOpensUptoRow.holds Try.pinned (OpenSpec.upto topNoSourceOpensSpec)

end Rows
end Go.Proofs.Ytheopgjjkgklpaa
