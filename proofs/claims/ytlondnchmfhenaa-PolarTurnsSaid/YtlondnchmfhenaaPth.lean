/- PolarTurns: Turned with a wrong turn. -/
import Derived.Test.YtlondnchmfhenaaRawf
import Derived.Test.YtlondnchmfhenaaEvu
namespace Go.Proofs.Ytlondnchmfhenaa.Ev
set_option linter.unusedSimpArgs false
open Go Go.RowKit
set_option maxRecDepth 100000
def tb2_t : Tr :=
  (.call 41 [(.agg [(.int .i64 (.var 16)), (.int .i64 (.var 17)), (.int .i64 (.var 18))])] (.int .i64 (.var 19)) 1 0
  (.rng 19 1 100 (.leaf (.tuple [(.agg [(.complex .f64 (.lit 0) (.lit 0)), (.complex .f64 (.lit 0) (.lit 0)), (.complex .f64 (.lit 0) (.lit 0)), (.complex .f64 (.lit 0) (.lit 0))]), (.int .i64 (.var 19))]))))
theorem tb2 {a0 a1 b0 b1 c0 c1 d0 d1 : Nat} {A0 A1 B0 B1 C0 C1 D0 D1 p q r : Int} (r2 : (-1000) ≤ A0 ∧ A0 ≤ 1000) (r3 : (-1000) ≤ A1 ∧ A1 ≤ 1000) (r6 : (-1000) ≤ B0 ∧ B0 ≤ 1000) (r7 : (-1000) ≤ B1 ∧ B1 ≤ 1000) (r10 : (-1000) ≤ C0 ∧ C0 ≤ 1000) (r11 : (-1000) ≤ C1 ∧ C1 ≤ 1000) (r14 : (-1000) ≤ D0 ∧ D0 ≤ 1000) (r15 : (-1000) ≤ D1 ∧ D1 ≤ 1000) (r16 : (-1000) ≤ p ∧ p ≤ 1000) (r17 : (-1000) ≤ q ∧ q ≤ 1000) (r18 : 1 ≤ r ∧ r ≤ 1000) (h0 : Rp a0 A0) (h1 : Rp a1 A1) (h4 : Rp b0 B0) (h5 : Rp b1 B1) (h8 : Rp c0 C0) (h9 : Rp c1 C1) (h12 : Rp d0 D0) (h13 : Rp d1 D1) {Q : Value → Prop} (H :
  (∃ v19 : Int, (∀ w, Calls Try.prog 41 #[.agg #[.int .i64 (p), .int .i64 (q), .int .i64 (r)]] w fun e w' => e = .returned (.int .i64 (v19)) ∧ Below w.heap.size w w') ∧
   ((1 ≤ v19 ∧ v19 ≤ 100) ∧ Q (.tuple #[.agg #[.complex .f64 0 0, .complex .f64 0 0, .complex .f64 0 0, .complex .f64 0 0], .int .i64 (v19)])))) :
    ∃ v, Q v ∧ ∀ w, Calls Try.prog 39 #[.agg #[.complex .f64 a0 a1, .complex .f64 b0 b1, .complex .f64 c0 c1, .complex .f64 d0 d1], .agg #[.int .i64 (p), .int .i64 (q), .int .i64 (r)]] w fun e w' => e = .returned v ∧ Below w.heap.size w w' :=
  tree_at mixed names S1_ok (S := S1 Try.prog) (lf := 100000) (d := 60) (args := [(.agg [(.complex .f64 (.var 0) (.var 1)), (.complex .f64 (.var 4) (.var 5)), (.complex .f64 (.var 8) (.var 9)), (.complex .f64 (.var 12) (.var 13))]), (.agg [(.int .i64 (.var 16)), (.int .i64 (.var 17)), (.int .i64 (.var 18))])]) tb2_t { ivs := [(2, (-1000), 1000), (3, (-1000), 1000), (6, (-1000), 1000), (7, (-1000), 1000), (10, (-1000), 1000), (11, (-1000), 1000), (14, (-1000), 1000), (15, (-1000), 1000), (16, (-1000), 1000), (17, (-1000), 1000), (18, 1, 1000)], whs := [(0, (.var 2), 1000), (1, (.var 3), 1000), (4, (.var 6), 1000), (5, (.var 7), 1000), (8, (.var 10), 1000), (9, (.var 11), 1000), (12, (.var 14), 1000), (13, (.var 15), 1000)] } [(a0 : Int), (a1 : Int), A0, A1, (b0 : Int), (b1 : Int), B0, B1, (c0 : Int), (c1 : Int), C0, C1, (d0 : Int), (d1 : Int), D0, D1, p, q, r] [] 19 0 rfl rfl (by kernel_rfl) (by kernel_rfl) (by kernel_rfl)
    ⟨(fc r2 (fc r3 (fc r6 (fc r7 (fc r10 (fc r11 (fc r14 (fc r15 (fc r16 (fc r17 (fc r18 fz))))))))))), (fc ⟨h0, wh_rng r2, by decide⟩ (fc ⟨h1, wh_rng r3, by decide⟩ (fc ⟨h4, wh_rng r6, by decide⟩ (fc ⟨h5, wh_rng r7, by decide⟩ (fc ⟨h8, wh_rng r10, by decide⟩ (fc ⟨h9, wh_rng r11, by decide⟩ (fc ⟨h12, wh_rng r14, by decide⟩ (fc ⟨h13, wh_rng r15, by decide⟩ fz))))))))⟩ H
end Go.Proofs.Ytlondnchmfhenaa.Ev
