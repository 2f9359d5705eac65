/-
  No cell of these rows narrows 'for every input' (looked for: loops, veiled, ifaces, maps, wideKeys, modest, calm, conditions, laid).
  DERIVED. THE GIVEN ROWS OF THIS SEAT. 2 by the template 'for every input the law returns true; each argument reads behind the call as it read before'; 0 by the template 'total and deterministic' (their statements: YtikekimiionllaaTotals.lean).
  GIVEN WITH THE SEED: the statements are not yours to turn. If you find one false, say at which input.
  Laid BY PROGRAM, IN A SANDBOX (cutbox-rows.mjs): the forced cells as the released guide's own fill.sh prints them over the translation e33c5fb7c022d6e8… (all of the seat's roots in one cut). By AI agents, Wed Nov 11 2026. No macro, syntax, notation, axiom, sorry.
-/
import Derived.Test.YtikekimiionllaaChecked
import GoSem.Claim
import GoSem.ClaimJoined
import GoSem.ClaimMapViews
import Derived.JoinedTies
import Derived.KernelRfl
namespace Go.Proofs.Ytikekimiionllaa
/- THE CELL 'sum', in the pinned program and in every row, IS THE sha256 OF THE DUMP (.gsa) THAT YtikekimiionllaaProg.lean LOADS. Nothing in Lean hashes anything: it is a label: what it is worth is what the hold of that sum in a sandbox is worth. -/
noncomputable def Try.pinned : Pinned := { name := "ytikekimiionllaa", sum := "e33c5fb7c022d6e8fe85a1d738724246fd04524dd578e9862ba75fccc44e55c9", checked := Try.checked }
namespace Rows
def none {H : Type} : Left H := { results := [], args := [] }

/-- 'etalonlaw08.GrowTracks': WHATEVER THE INPUT: true; the input reads as it did. -/
def growTracksSpec : ChangeSpec := { name := "growTracks", fn := fun _ => fun
  | [d] => { results := [.lit (.bool true)], args := [d] }
  | _ => none }
def growTracksRow : OpenClaim := { program := "ytikekimiionllaa", sum := "e33c5fb7c022d6e8fe85a1d738724246fd04524dd578e9862ba75fccc44e55c9", func := "etalon/etalonlaw08.GrowTracks", spec := "growTracks", inPlace := ["math.Float64bits", "math.Float64frombits", "math.archTrunc"], unfollowed := true, recurses := true, named := ["math/bits.divideError", "math/bits.overflowError"], apart := false }
def GrowTracksSaid : Prop := growTracksRow.holds Try.pinned (OpenSpec.ofChange growTracksSpec)

/-- ITS FALSE NEIGHBOUR: 'it returns false'. Refute it at one input. -/
def growTracksWrong : ChangeSpec := { name := "growTracks", fn := fun _ => fun
  | [d] => { results := [.lit (.bool false)], args := [d] }
  | _ => none }
def GrowTracksWrongFalsely : Prop := growTracksRow.holds Try.pinned (OpenSpec.ofChange growTracksWrong)

/-- 'etalonlaw08.GrowNarrowest': WHATEVER THE INPUT: true; the input reads as it did. -/
def growNarrowestSpec : ChangeSpec := { name := "growNarrowest", fn := fun _ => fun
  | [d1, d2] => { results := [.lit (.bool true)], args := [d1, d2] }
  | _ => none }
def growNarrowestRow : OpenClaim := { program := "ytikekimiionllaa", sum := "e33c5fb7c022d6e8fe85a1d738724246fd04524dd578e9862ba75fccc44e55c9", func := "etalon/etalonlaw08.GrowNarrowest", spec := "growNarrowest", inPlace := ["math.Float64bits", "math.Float64frombits", "math.archTrunc"], unfollowed := true, recurses := true, named := ["math/bits.divideError", "math/bits.overflowError"], apart := false }
def GrowNarrowestSaid : Prop := growNarrowestRow.holds Try.pinned (OpenSpec.ofChange growNarrowestSpec)

/-- ITS FALSE NEIGHBOUR: 'it returns false'. Refute it at one input. -/
def growNarrowestWrong : ChangeSpec := { name := "growNarrowest", fn := fun _ => fun
  | [d1, d2] => { results := [.lit (.bool false)], args := [d1, d2] }
  | _ => none }
def GrowNarrowestWrongFalsely : Prop := growNarrowestRow.holds Try.pinned (OpenSpec.ofChange growNarrowestWrong)

/- THE SECOND FORM. 'bulk': how many values and letters a reading holds, each counted each time it is reached (what is shared counts as often as it is met; a slice's spare places count too). A statement '..UptoSaid' is the law's where the arguments, and the package variables that the reading takes, are together of bulk at most 1048576: NARROWER than '..Said'. Prove '..Said' where nothing that the law and all that it calls make is longer than what came in: it says more and counts as full. Else prove '..UptoSaid'. A law counts once. -/
mutual
def uptoBulk {H : Type} : DataW H → Nat
  | .lit (.string bytes) => bytes.length + 1
  | .lit _ => 1
  | .nil => 1
  | .ptr d => uptoBulk d + 1
  | .slice elems spare => uptoBulkAll elems + uptoBulkAll spare + 1
  | .agg parts => uptoBulkAll parts + 1
  | .iface _ d => uptoBulk d + 1
  | .map entries => uptoBulkEntries entries + 1
  | .held _ => 1
def uptoBulkAll {H : Type} : List (DataW H) → Nat
  | [] => 0
  | d :: r => uptoBulk d + uptoBulkAll r
def uptoBulkEntries {H : Type} : List (Lit × DataW H) → Nat
  | [] => 0
  | x :: r => uptoBulkEntry x + uptoBulkEntries r
def uptoBulkEntry {H : Type} : Lit × DataW H → Nat
  | (.string bytes, d) => bytes.length + uptoBulk d + 1
  | (_, d) => uptoBulk d + 1
 end
def uptoSmall : (H : Type) → List (DataW H) → Bool := fun _ ds => decide (uptoBulkAll ds ≤ 1048576)
def OpenSpec.upto (s : _root_.Go.ChangeSpec) : _root_.Go.OpenSpec := { _root_.Go.OpenSpec.ofChange s with cond := some uptoSmall }

/-- 'etalonlaw08.GrowTracks', WHERE WHAT IT READS IS OF BULK AT MOST 1048576: true; the input reads as it did. -/
def growTracksUptoRow : OpenClaim := { program := "ytikekimiionllaa", sum := "e33c5fb7c022d6e8fe85a1d738724246fd04524dd578e9862ba75fccc44e55c9", func := "etalon/etalonlaw08.GrowTracks", spec := "growTracks", inPlace := ["math.Float64bits", "math.Float64frombits", "math.archTrunc"], unfollowed := true, recurses := true, named := ["math/bits.divideError", "math/bits.overflowError"], apart := false, narrowed := true }
def GrowTracksUptoSaid : Prop := growTracksUptoRow.holds Try.pinned (OpenSpec.upto growTracksSpec)

/-- 'etalonlaw08.GrowNarrowest', WHERE WHAT IT READS IS OF BULK AT MOST 1048576: true; the input reads as it did. -/
def growNarrowestUptoRow : OpenClaim := { program := "ytikekimiionllaa", sum := "e33c5fb7c022d6e8fe85a1d738724246fd04524dd578e9862ba75fccc44e55c9", func := "etalon/etalonlaw08.GrowNarrowest", spec := "growNarrowest", inPlace := ["math.Float64bits", "math.Float64frombits", "math.archTrunc"], unfollowed := true, recurses := true, named := ["math/bits.divideError", "math/bits.overflowError"], apart := false, narrowed := true }
def GrowNarrowestUptoSaid : Prop := growNarrowestUptoRow.holds Try.pinned (OpenSpec.upto growNarrowestSpec)

end Rows
end Go.Proofs.Ytikekimiionllaa
