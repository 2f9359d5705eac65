/-
  No cell of these rows narrows 'for every input' (looked for: loops, veiled, ifaces, maps, wideKeys, modest, calm, conditions, laid).
  DERIVED. THE GIVEN ROWS OF THIS SEAT. 5 by the template 'for every input the law returns true; each argument reads behind the call as it read before'; 0 by the template 'total and deterministic' (their statements: YtgdlddmbfockpaaTotals.lean).
  GIVEN WITH THE SEED: the statements are not yours to turn. If you find one false, say at which input.
  Laid BY PROGRAM, IN A SANDBOX (cutbox-rows.mjs): the forced cells as the released guide's own fill.sh prints them over the translation c48399465dadf80e… (all of the seat's roots in one cut). By AI agents, Wed Nov 11 2026. No macro, syntax, notation, axiom, sorry.
-/
import Derived.Test.YtgdlddmbfockpaaChecked
import GoSem.Claim
import GoSem.ClaimJoined
import GoSem.ClaimMapViews
import Derived.JoinedTies
import Derived.KernelRfl
namespace Go.Proofs.Ytgdlddmbfockpaa
/- THE CELL 'sum', in the pinned program and in every row, IS THE sha256 OF THE DUMP (.gsa) THAT YtgdlddmbfockpaaProg.lean LOADS. Nothing in Lean hashes anything: it is a label: what it is worth is what the hold of that sum in a sandbox is worth. -/
noncomputable def Try.pinned : Pinned := { name := "ytgdlddmbfockpaa", sum := "c48399465dadf80e6cc2127bfcb1100267f9ff589d716571436cceff596fe45d", checked := Try.checked }
namespace Rows
def none {H : Type} : Left H := { results := [], args := [] }

/-- 'etalonlaw01.BallAdds': WHATEVER THE INPUT: true; the input reads as it did. -/
def ballAddsSpec : ChangeSpec := { name := "ballAdds", fn := fun _ => fun
  | [d1, d2, d3] => { results := [.lit (.bool true)], args := [d1, d2, d3] }
  | _ => none }
def ballAddsRow : OpenClaim := { program := "ytgdlddmbfockpaa", sum := "c48399465dadf80e6cc2127bfcb1100267f9ff589d716571436cceff596fe45d", func := "etalon/etalonlaw01.BallAdds", spec := "ballAdds", inPlace := ["math.Float64bits", "math.Float64frombits", "math.archTrunc", "math.sqrt"], unfollowed := true, recurses := true, named := ["math/bits.divideError", "math/bits.overflowError"], apart := false }
def BallAddsSaid : Prop := ballAddsRow.holds Try.pinned (OpenSpec.ofChange ballAddsSpec)

/-- ITS FALSE NEIGHBOUR: 'it returns false'. Refute it at one input. -/
def ballAddsWrong : ChangeSpec := { name := "ballAdds", fn := fun _ => fun
  | [d1, d2, d3] => { results := [.lit (.bool false)], args := [d1, d2, d3] }
  | _ => none }
def BallAddsWrongFalsely : Prop := ballAddsRow.holds Try.pinned (OpenSpec.ofChange ballAddsWrong)

/-- 'etalonlaw01.BallMultiplies': WHATEVER THE INPUT: true; the input reads as it did. -/
def ballMultipliesSpec : ChangeSpec := { name := "ballMultiplies", fn := fun _ => fun
  | [d1, d2] => { results := [.lit (.bool true)], args := [d1, d2] }
  | _ => none }
def ballMultipliesRow : OpenClaim := { program := "ytgdlddmbfockpaa", sum := "c48399465dadf80e6cc2127bfcb1100267f9ff589d716571436cceff596fe45d", func := "etalon/etalonlaw01.BallMultiplies", spec := "ballMultiplies", inPlace := ["math.Float64bits", "math.Float64frombits", "math.archTrunc", "math.sqrt"], unfollowed := true, recurses := true, named := ["math/bits.divideError", "math/bits.overflowError"], apart := false }
def BallMultipliesSaid : Prop := ballMultipliesRow.holds Try.pinned (OpenSpec.ofChange ballMultipliesSpec)

/-- ITS FALSE NEIGHBOUR: 'it returns false'. Refute it at one input. -/
def ballMultipliesWrong : ChangeSpec := { name := "ballMultiplies", fn := fun _ => fun
  | [d1, d2] => { results := [.lit (.bool false)], args := [d1, d2] }
  | _ => none }
def BallMultipliesWrongFalsely : Prop := ballMultipliesRow.holds Try.pinned (OpenSpec.ofChange ballMultipliesWrong)

/-- 'etalonlaw01.BallDivides': WHATEVER THE INPUT: true; the input reads as it did. -/
def ballDividesSpec : ChangeSpec := { name := "ballDivides", fn := fun _ => fun
  | [d1, d2] => { results := [.lit (.bool true)], args := [d1, d2] }
  | _ => none }
def ballDividesRow : OpenClaim := { program := "ytgdlddmbfockpaa", sum := "c48399465dadf80e6cc2127bfcb1100267f9ff589d716571436cceff596fe45d", func := "etalon/etalonlaw01.BallDivides", spec := "ballDivides", inPlace := ["math.Float64bits", "math.Float64frombits", "math.archTrunc", "math.sqrt"], unfollowed := true, recurses := true, named := ["math/bits.divideError", "math/bits.overflowError"], apart := false }
def BallDividesSaid : Prop := ballDividesRow.holds Try.pinned (OpenSpec.ofChange ballDividesSpec)

/-- ITS FALSE NEIGHBOUR: 'it returns false'. Refute it at one input. -/
def ballDividesWrong : ChangeSpec := { name := "ballDivides", fn := fun _ => fun
  | [d1, d2] => { results := [.lit (.bool false)], args := [d1, d2] }
  | _ => none }
def BallDividesWrongFalsely : Prop := ballDividesRow.holds Try.pinned (OpenSpec.ofChange ballDividesWrong)

/-- 'etalonlaw01.BallArcs': WHATEVER THE INPUT: true; the input reads as it did. -/
def ballArcsSpec : ChangeSpec := { name := "ballArcs", fn := fun _ => fun
  | [d1, d2, d3] => { results := [.lit (.bool true)], args := [d1, d2, d3] }
  | _ => none }
def ballArcsRow : OpenClaim := { program := "ytgdlddmbfockpaa", sum := "c48399465dadf80e6cc2127bfcb1100267f9ff589d716571436cceff596fe45d", func := "etalon/etalonlaw01.BallArcs", spec := "ballArcs", inPlace := ["math.Float64bits", "math.Float64frombits", "math.archTrunc", "math.sqrt"], unfollowed := true, recurses := true, named := ["math/bits.divideError", "math/bits.overflowError"], apart := false }
def BallArcsSaid : Prop := ballArcsRow.holds Try.pinned (OpenSpec.ofChange ballArcsSpec)

/-- ITS FALSE NEIGHBOUR: 'it returns false'. Refute it at one input. -/
def ballArcsWrong : ChangeSpec := { name := "ballArcs", fn := fun _ => fun
  | [d1, d2, d3] => { results := [.lit (.bool false)], args := [d1, d2, d3] }
  | _ => none }
def BallArcsWrongFalsely : Prop := ballArcsRow.holds Try.pinned (OpenSpec.ofChange ballArcsWrong)

/-- 'etalonlaw01.BallTurns': WHATEVER THE INPUT: true; the input reads as it did. -/
def ballTurnsSpec : ChangeSpec := { name := "ballTurns", fn := fun _ => fun
  | [d1, d2, d3] => { results := [.lit (.bool true)], args := [d1, d2, d3] }
  | _ => none }
def ballTurnsRow : OpenClaim := { program := "ytgdlddmbfockpaa", sum := "c48399465dadf80e6cc2127bfcb1100267f9ff589d716571436cceff596fe45d", func := "etalon/etalonlaw01.BallTurns", spec := "ballTurns", inPlace := ["math.Float64bits", "math.Float64frombits", "math.archTrunc", "math.sqrt"], unfollowed := true, recurses := true, named := ["math/bits.divideError", "math/bits.overflowError"], apart := false }
def BallTurnsSaid : Prop := ballTurnsRow.holds Try.pinned (OpenSpec.ofChange ballTurnsSpec)

/-- ITS FALSE NEIGHBOUR: 'it returns false'. Refute it at one input. -/
def ballTurnsWrong : ChangeSpec := { name := "ballTurns", fn := fun _ => fun
  | [d1, d2, d3] => { results := [.lit (.bool false)], args := [d1, d2, d3] }
  | _ => none }
def BallTurnsWrongFalsely : Prop := ballTurnsRow.holds Try.pinned (OpenSpec.ofChange ballTurnsWrong)

/- THE SECOND FORM. 'bulk': how many values and letters a reading holds, each counted each time it is reached (what is shared counts as often as it is met; a slice's spare places count too). A statement '..UptoSaid' is the law's where the arguments, and the package variables that the reading takes, are together of bulk at most 1048576: NARROWER than '..Said'. Prove '..Said' where nothing that the law and all that it calls make is longer than what came in: it says more and counts as full. Else prove '..UptoSaid'. A law counts once. -/
mutual
def uptoBulk {H : Type} : DataW H → Nat
  | .lit (.string bytes) => bytes.length + 1
  | .lit _ => 1
  | .nil => 1
  | .ptr d => uptoBulk d + 1
  | .slice elems spare => uptoBulkAll elems + uptoBulkAll spare + 1
  | .agg parts => uptoBulkAll parts + 1
  | .iface _ d => uptoBulk d + 1
  | .map entries => uptoBulkEntries entries + 1
  | .held _ => 1
def uptoBulkAll {H : Type} : List (DataW H) → Nat
  | [] => 0
  | d :: r => uptoBulk d + uptoBulkAll r
def uptoBulkEntries {H : Type} : List (Lit × DataW H) → Nat
  | [] => 0
  | x :: r => uptoBulkEntry x + uptoBulkEntries r
def uptoBulkEntry {H : Type} : Lit × DataW H → Nat
  | (.string bytes, d) => bytes.length + uptoBulk d + 1
  | (_, d) => uptoBulk d + 1
 end
def uptoSmall : (H : Type) → List (DataW H) → Bool := fun _ ds => decide (uptoBulkAll ds ≤ 1048576)
def OpenSpec.upto (s : _root_.Go.ChangeSpec) : _root_.Go.OpenSpec := { _root_.Go.OpenSpec.ofChange s with cond := some uptoSmall }

/-- 'etalonlaw01.BallAdds', WHERE WHAT IT READS IS OF BULK AT MOST 1048576: true; the input reads as it did. -/
def ballAddsUptoRow : OpenClaim := { program := "ytgdlddmbfockpaa", sum := "c48399465dadf80e6cc2127bfcb1100267f9ff589d716571436cceff596fe45d", func := "etalon/etalonlaw01.BallAdds", spec := "ballAdds", inPlace := ["math.Float64bits", "math.Float64frombits", "math.archTrunc", "math.sqrt"], unfollowed := true, recurses := true, named := ["math/bits.divideError", "math/bits.overflowError"], apart := false, narrowed := true }
def BallAddsUptoSaid : Prop := ballAddsUptoRow.holds Try.pinned (OpenSpec.upto ballAddsSpec)

/-- 'etalonlaw01.BallMultiplies', WHERE WHAT IT READS IS OF BULK AT MOST 1048576: true; the input reads as it did. -/
def ballMultipliesUptoRow : OpenClaim := { program := "ytgdlddmbfockpaa", sum := "c48399465dadf80e6cc2127bfcb1100267f9ff589d716571436cceff596fe45d", func := "etalon/etalonlaw01.BallMultiplies", spec := "ballMultiplies", inPlace := ["math.Float64bits", "math.Float64frombits", "math.archTrunc", "math.sqrt"], unfollowed := true, recurses := true, named := ["math/bits.divideError", "math/bits.overflowError"], apart := false, narrowed := true }
def BallMultipliesUptoSaid : Prop := ballMultipliesUptoRow.holds Try.pinned (OpenSpec.upto ballMultipliesSpec)

/-- 'etalonlaw01.BallDivides', WHERE WHAT IT READS IS OF BULK AT MOST 1048576: true; the input reads as it did. -/
def ballDividesUptoRow : OpenClaim := { program := "ytgdlddmbfockpaa", sum := "c48399465dadf80e6cc2127bfcb1100267f9ff589d716571436cceff596fe45d", func := "etalon/etalonlaw01.BallDivides", spec := "ballDivides", inPlace := ["math.Float64bits", "math.Float64frombits", "math.archTrunc", "math.sqrt"], unfollowed := true, recurses := true, named := ["math/bits.divideError", "math/bits.overflowError"], apart := false, narrowed := true }
def BallDividesUptoSaid : Prop := ballDividesUptoRow.holds Try.pinned (OpenSpec.upto ballDividesSpec)

/-- 'etalonlaw01.BallArcs', WHERE WHAT IT READS IS OF BULK AT MOST 1048576: true; the input reads as it did. -/
def ballArcsUptoRow : OpenClaim := { program := "ytgdlddmbfockpaa", sum := "c48399465dadf80e6cc2127bfcb1100267f9ff589d716571436cceff596fe45d", func := "etalon/etalonlaw01.BallArcs", spec := "ballArcs", inPlace := ["math.Float64bits", "math.Float64frombits", "math.archTrunc", "math.sqrt"], unfollowed := true, recurses := true, named := ["math/bits.divideError", "math/bits.overflowError"], apart := false, narrowed := true }
def BallArcsUptoSaid : Prop := ballArcsUptoRow.holds Try.pinned (OpenSpec.upto ballArcsSpec)

/-- 'etalonlaw01.BallTurns', WHERE WHAT IT READS IS OF BULK AT MOST 1048576: true; the input reads as it did. -/
def ballTurnsUptoRow : OpenClaim := { program := "ytgdlddmbfockpaa", sum := "c48399465dadf80e6cc2127bfcb1100267f9ff589d716571436cceff596fe45d", func := "etalon/etalonlaw01.BallTurns", spec := "ballTurns", inPlace := ["math.Float64bits", "math.Float64frombits", "math.archTrunc", "math.sqrt"], unfollowed := true, recurses := true, named := ["math/bits.divideError", "math/bits.overflowError"], apart := false, narrowed := true }
def BallTurnsUptoSaid : Prop := ballTurnsUptoRow.holds Try.pinned (OpenSpec.upto ballTurnsSpec)

end Rows
end Go.Proofs.Ytgdlddmbfockpaa
