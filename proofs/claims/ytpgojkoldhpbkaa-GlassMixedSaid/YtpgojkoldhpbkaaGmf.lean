/- GlassMixed: the law's walk, awake. -/
import Derived.Test.YtpgojkoldhpbkaaGme
import Derived.Test.YtpgojkoldhpbkaaGwa
namespace Go.Proofs.Ytpgojkoldhpbkaa.Gm
open Go Go.RowKit Go.Proofs.Ytpgojkoldhpbkaa Go.Proofs.Ytpgojkoldhpbkaa.Ev
theorem walked (a b s : Int) (w : World) : Calls Try.prog 6 #[.int .i64 a, .int .i64 b, .int .i64 s] w fun e w' => e = .returned (.bool true) ∧ Below w.heap.size w w' :=
  walk (fun w => awake_ok w) a b s w
end Go.Proofs.Ytpgojkoldhpbkaa.Gm
