/- GlassMixes: the law's walk, awake. -/
import Derived.Test.YtpgojkoldhpbkaaGcd
import Derived.Test.YtpgojkoldhpbkaaGwa
namespace Go.Proofs.Ytpgojkoldhpbkaa.Gm
set_option linter.unusedSimpArgs false
open Go Go.RowKit Go.Proofs.Ytpgojkoldhpbkaa Go.Proofs.Ytpgojkoldhpbkaa.Ev
theorem walkedX (a b x y : Int) (w : World) : Calls Try.prog 5 #[.int .i64 a, .int .i64 b, .agg #[.int .i64 x, .int .i64 y]] w fun e w' => e = .returned (.bool true) ∧ Below w.heap.size w w' :=
  walkX (fun w => awake_ok w) a b x y w
end Go.Proofs.Ytpgojkoldhpbkaa.Gm
