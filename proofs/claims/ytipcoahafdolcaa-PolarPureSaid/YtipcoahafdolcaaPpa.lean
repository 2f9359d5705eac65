/- PolarPure: walks. -/
import Derived.Test.YtipcoahafdolcaaEvw1
import Derived.Test.YtipcoahafdolcaaEvu
import Derived.Test.YtipcoahafdolcaaPgc
namespace Go.Proofs.Ytipcoahafdolcaa.Ev
set_option linter.unusedSimpArgs false
open Go Go.RowKit
set_option maxRecDepth 100000
def ppa_q0 : SV := (.agg [(.int .i64 (.var 8)), (.int .i64 (.var 9)), (.int .i64 (.var 10)), (.int .i64 (.var 11)), (.int .i64 (.var 12)), (.int .i64 (.var 13)), (.int .i64 (.var 14)), (.int .i64 (.var 15)), (.int .i64 (.var 16)), (.int .i64 (.var 17)), (.int .i64 (.var 18)), (.int .i64 (.var 19)), (.int .i64 (.var 20)), (.int .i64 (.var 21)), (.int .i64 (.var 22)), (.int .i64 (.var 23))])
def ppa_q1 : NE := (.bin .mulI (.lit (-1)) (.bin .subI (.lit 0) (.var 15)))
def ppa_q2 : NE := (.bin .mulI (.lit (-1)) (.bin .subI (.lit 0) (.var 7)))
def ppa_q3 : NE := (.bin .subI (.bin .mulI (.var 2) (.var 2)) (.bin .mulI (.var 3) (.bin .subI (.lit 0) (.var 3))))
def ppa_q4 : Tr := (.leaf (.tuple [(.agg [(.int .i64 (.lit 0)), (.int .i64 (.lit 0))]), (.int .i64 (.lit 8))]))
def ppa_q5 : NE := (.bin .addI (.bin .subI (.bin .mulI (.var 2) (.bin .subI (.lit 0) ppa_q2)) (.bin .mulI (.var 3) (.bin .mulI (.lit (-1)) (.var 6)))) (.bin .subI (.bin .mulI (.var 6) (.bin .subI (.lit 0) (.bin .subI (.lit 0) (.var 3)))) (.bin .mulI (.var 7) (.var 2))))
def ppa_q6 : NE := (.bin .addI (.bin .subI (.bin .mulI (.var 2) (.var 6)) (.bin .mulI (.var 3) (.bin .subI (.lit 0) (.var 7)))) (.bin .subI (.bin .mulI (.var 6) (.var 2)) (.bin .mulI (.var 7) (.bin .subI (.lit 0) (.var 3)))))
def ppa_q14 : NE := (.bin .subI (.lit 0) (.bin .mulI (.lit (-1)) (.var 11)))
def ppa_q7 : NE := (.bin .subI (.bin .mulI ppa_q14 (.var 2)) (.bin .mulI (.bin .mulI (.lit (-1)) (.var 10)) (.bin .subI (.lit 0) (.var 3))))
def ppa_q8 : NE := (.bin .subI (.lit 0) (.bin .mulI (.lit (-1)) (.var 15)))
def ppa_q9 : NE := (.bin .subI (.bin .mulI (.bin .mulI (.lit (-1)) (.var 10)) (.var 10)) (.bin .mulI (.bin .mulI (.lit (-1)) (.var 11)) (.bin .subI (.lit 0) (.var 11))))
def ppa_q10 : NE := (.bin .subI (.lit 0) (.bin .subI (.lit 0) (.var 11)))
def ppa_q11 : NE := (.bin .subI (.bin .mulI (.bin .subI (.lit 0) (.var 3)) (.var 10)) (.bin .mulI (.var 2) (.bin .subI (.lit 0) (.var 11))))
def ppa_q12 : NE := (.bin .addI ppa_q3 (.bin .subI (.bin .mulI (.var 6) (.bin .mulI (.lit (-1)) (.var 6))) (.bin .mulI (.var 7) ppa_q2)))
def ppa_q13 : NE := (.bin .addI ppa_q3 (.bin .subI (.bin .mulI (.var 6) (.var 6)) (.bin .mulI (.var 7) (.bin .subI (.lit 0) (.var 7)))))
def ppa_q15 : NE := (.bin .subI (.bin .mulI (.var 10) (.var 10)) (.bin .mulI (.var 11) (.bin .subI (.lit 0) (.var 11))))
def ppa_q16 : NE := (.bin .subI (.bin .mulI (.var 10) (.var 2)) (.bin .mulI (.var 11) (.bin .subI (.lit 0) (.var 3))))
def ppa_q17 : NE := (.bin .subI (.bin .mulI (.var 2) (.var 10)) (.bin .mulI (.var 3) (.bin .subI (.lit 0) (.var 11))))
def pu_t : Tr :=
 (.call 20 [] (.bool (.lit true)) 0 0
 (.fact (.and (.icmp .eql (.var 0) (.lit 0)) (.and (.icmp .eql (.var 1) (.lit 0)) (.and (.icmp .eql (.var 2) (.lit 0)) (.and (.icmp .eql (.var 3) (.lit 0)) (.and (.icmp .eql (.var 4) (.lit 0)) (.and (.icmp .eql (.var 5) (.lit 0)) (.and (.icmp .eql (.var 6) (.lit 0)) (.icmp .eql (.var 7) (.lit 0))))))))) false (.call 53 [(.agg [(.complex .f64 (.toF .f64 (.var 0)) (.toF .f64 (.var 1))), (.complex .f64 (.toF .f64 (.var 2)) (.toF .f64 (.var 3))), (.complex .f64 (.toF .f64 (.var 4)) (.toF .f64 (.var 5))), (.complex .f64 (.toF .f64 (.var 6)) (.toF .f64 (.var 7)))])] (.tuple [ppa_q0, (.int .i64 (.var 24))]) 17 0
 (.rng 8 (-64) 64 (.rng 9 (-64) 64 (.rng 10 (-64) 64 (.rng 11 (-64) 64 (.rng 12 (-64) 64 (.rng 13 (-64) 64 (.rng 14 (-64) 64 (.rng 15 (-64) 64 (.rng 16 (-64) 64 (.rng 17 (-64) 64 (.rng 18 (-64) 64 (.rng 19 (-64) 64 (.rng 20 (-64) 64 (.rng 21 (-64) 64 (.rng 22 (-64) 64 (.rng 23 (-64) 64 (.call 64 [ppa_q0] (.tuple [(.agg [(.complex .f64 (.var 25) (.var 26)), (.complex .f64 (.var 27) (.var 28)), (.complex .f64 (.var 29) (.var 30)), (.complex .f64 (.var 31) (.var 32))]), (.int .i64 (.var 33))]) 9 0
 (.whole 25 1000 (.rng 34 (-1000) 1000 (.whole 26 1000 (.rng 35 (-1000) 1000 (.whole 27 1000 (.rng 36 (-1000) 1000 (.whole 28 1000 (.rng 37 (-1000) 1000 (.whole 29 1000 (.rng 38 (-1000) 1000 (.whole 30 1000 (.rng 39 (-1000) 1000 (.whole 31 1000 (.rng 40 (-1000) 1000 (.whole 32 1000 (.rng 41 (-1000) 1000 (.call 66 [ppa_q0] (.tuple [(.agg [(.int .i64 (.var 42)), (.int .i64 (.var 43))]), (.int .i64 (.var 44))]) 3 0
 (.ite (.icmp .eql (.var 24) (.lit 0))
 (.ite (.icmp .eql (.var 33) (.lit 0))
 (.ite (.icmp .eql (.var 44) (.lit 0))
 (.ite (.icmp .eql (.var 42) (.lit 1))
 (.ite (.icmp .eql (.var 43) (.lit 1))
 (.ite (.icmp .eql (.bin .subI (.bin .mulI (.var 0) (.var 36)) (.bin .mulI (.var 1) (.var 37))) (.bin .subI (.bin .mulI (.var 2) (.var 34)) (.bin .mulI (.var 3) (.var 35))))
 (.ite (.icmp .eql (.bin .addI (.bin .mulI (.var 0) (.var 37)) (.bin .mulI (.var 1) (.var 36))) (.bin .addI (.bin .mulI (.var 2) (.var 35)) (.bin .mulI (.var 3) (.var 34))))
 (.ite (.icmp .eql (.bin .subI (.bin .mulI (.var 0) (.var 38)) (.bin .mulI (.var 1) (.var 39))) (.bin .subI (.bin .mulI (.var 4) (.var 34)) (.bin .mulI (.var 5) (.var 35))))
 (.ite (.icmp .eql (.bin .addI (.bin .mulI (.var 0) (.var 39)) (.bin .mulI (.var 1) (.var 38))) (.bin .addI (.bin .mulI (.var 4) (.var 35)) (.bin .mulI (.var 5) (.var 34))))
 (.ite (.icmp .eql (.bin .subI (.bin .mulI (.var 0) (.var 40)) (.bin .mulI (.var 1) (.var 41))) (.bin .subI (.bin .mulI (.var 6) (.var 34)) (.bin .mulI (.var 7) (.var 35))))
 (.ite (.icmp .eql (.bin .addI (.bin .mulI (.var 0) (.var 41)) (.bin .mulI (.var 1) (.var 40))) (.bin .addI (.bin .mulI (.var 6) (.var 35)) (.bin .mulI (.var 7) (.var 34))))
 (.ite (.icmp .eql (.bin .subI (.bin .mulI (.var 2) (.var 34)) (.bin .mulI (.var 3) (.var 35))) (.bin .subI (.bin .mulI (.var 0) (.var 36)) (.bin .mulI (.var 1) (.var 37))))
 (.ite (.icmp .eql (.bin .addI (.bin .mulI (.var 2) (.var 35)) (.bin .mulI (.var 3) (.var 34))) (.bin .addI (.bin .mulI (.var 0) (.var 37)) (.bin .mulI (.var 1) (.var 36))))
 (.ite (.icmp .eql (.bin .subI (.bin .mulI (.var 2) (.var 38)) (.bin .mulI (.var 3) (.var 39))) (.bin .subI (.bin .mulI (.var 4) (.var 36)) (.bin .mulI (.var 5) (.var 37))))
 (.ite (.icmp .eql (.bin .addI (.bin .mulI (.var 2) (.var 39)) (.bin .mulI (.var 3) (.var 38))) (.bin .addI (.bin .mulI (.var 4) (.var 37)) (.bin .mulI (.var 5) (.var 36))))
 (.ite (.icmp .eql (.bin .subI (.bin .mulI (.var 2) (.var 40)) (.bin .mulI (.var 3) (.var 41))) (.bin .subI (.bin .mulI (.var 6) (.var 36)) (.bin .mulI (.var 7) (.var 37))))
 (.ite (.icmp .eql (.bin .addI (.bin .mulI (.var 2) (.var 41)) (.bin .mulI (.var 3) (.var 40))) (.bin .addI (.bin .mulI (.var 6) (.var 37)) (.bin .mulI (.var 7) (.var 36))))
 (.ite (.icmp .eql (.bin .subI (.bin .mulI (.var 4) (.var 34)) (.bin .mulI (.var 5) (.var 35))) (.bin .subI (.bin .mulI (.var 0) (.var 38)) (.bin .mulI (.var 1) (.var 39))))
 (.ite (.icmp .eql (.bin .addI (.bin .mulI (.var 4) (.var 35)) (.bin .mulI (.var 5) (.var 34))) (.bin .addI (.bin .mulI (.var 0) (.var 39)) (.bin .mulI (.var 1) (.var 38))))
 (.ite (.icmp .eql (.bin .subI (.bin .mulI (.var 4) (.var 36)) (.bin .mulI (.var 5) (.var 37))) (.bin .subI (.bin .mulI (.var 2) (.var 38)) (.bin .mulI (.var 3) (.var 39))))
 (.ite (.icmp .eql (.bin .addI (.bin .mulI (.var 4) (.var 37)) (.bin .mulI (.var 5) (.var 36))) (.bin .addI (.bin .mulI (.var 2) (.var 39)) (.bin .mulI (.var 3) (.var 38))))
 (.ite (.icmp .eql (.bin .subI (.bin .mulI (.var 4) (.var 40)) (.bin .mulI (.var 5) (.var 41))) (.bin .subI (.bin .mulI (.var 6) (.var 38)) (.bin .mulI (.var 7) (.var 39))))
 (.ite (.icmp .eql (.bin .addI (.bin .mulI (.var 4) (.var 41)) (.bin .mulI (.var 5) (.var 40))) (.bin .addI (.bin .mulI (.var 6) (.var 39)) (.bin .mulI (.var 7) (.var 38))))
 (.ite (.icmp .eql (.bin .subI (.bin .mulI (.var 6) (.var 34)) (.bin .mulI (.var 7) (.var 35))) (.bin .subI (.bin .mulI (.var 0) (.var 40)) (.bin .mulI (.var 1) (.var 41))))
 (.ite (.icmp .eql (.bin .addI (.bin .mulI (.var 6) (.var 35)) (.bin .mulI (.var 7) (.var 34))) (.bin .addI (.bin .mulI (.var 0) (.var 41)) (.bin .mulI (.var 1) (.var 40))))
 (.ite (.icmp .eql (.bin .subI (.bin .mulI (.var 6) (.var 36)) (.bin .mulI (.var 7) (.var 37))) (.bin .subI (.bin .mulI (.var 2) (.var 40)) (.bin .mulI (.var 3) (.var 41))))
 (.ite (.icmp .eql (.bin .addI (.bin .mulI (.var 6) (.var 37)) (.bin .mulI (.var 7) (.var 36))) (.bin .addI (.bin .mulI (.var 2) (.var 41)) (.bin .mulI (.var 3) (.var 40))))
 (.ite (.icmp .eql (.bin .subI (.bin .mulI (.var 6) (.var 38)) (.bin .mulI (.var 7) (.var 39))) (.bin .subI (.bin .mulI (.var 4) (.var 40)) (.bin .mulI (.var 5) (.var 41))))
 (.ite (.icmp .eql (.bin .addI (.bin .mulI (.var 6) (.var 39)) (.bin .mulI (.var 7) (.var 38))) (.bin .addI (.bin .mulI (.var 4) (.var 41)) (.bin .mulI (.var 5) (.var 40))))
 (.call 67 [ppa_q0] (.tuple [(.bool (.var 0)), (.int .i64 (.var 45))]) 1 1
 (.ite (.icmp .eql (.var 45) (.lit 8))
 (.ite (.var 0)
 (.leaf (.bool (.lit false)))
 (.leaf (.bool (.lit true))))
 (.ite (.icmp .eql (.var 45) (.lit 0))
 (.leaf (.bool (.var 0)))
 (.leaf (.bool (.lit false))))))
 (.leaf (.bool (.lit false))))
 (.leaf (.bool (.lit false))))
 (.leaf (.bool (.lit false))))
 (.leaf (.bool (.lit false))))
 (.leaf (.bool (.lit false))))
 (.leaf (.bool (.lit false))))
 (.leaf (.bool (.lit false))))
 (.leaf (.bool (.lit false))))
 (.leaf (.bool (.lit false))))
 (.leaf (.bool (.lit false))))
 (.leaf (.bool (.lit false))))
 (.leaf (.bool (.lit false))))
 (.leaf (.bool (.lit false))))
 (.leaf (.bool (.lit false))))
 (.leaf (.bool (.lit false))))
 (.leaf (.bool (.lit false))))
 (.leaf (.bool (.lit false))))
 (.leaf (.bool (.lit false))))
 (.leaf (.bool (.lit false))))
 (.leaf (.bool (.lit false))))
 (.leaf (.bool (.lit false))))
 (.leaf (.bool (.lit false))))
 (.leaf (.bool (.lit false))))
 (.leaf (.bool (.lit false))))
 (.leaf (.bool (.lit false))))
 (.leaf (.bool (.lit false))))
 (.leaf (.bool (.lit false))))
 (.leaf (.bool (.lit false))))
 (.leaf (.bool (.lit false)))))))))))))))))))))))))))))))))))))))))
theorem pu_p0 {x0 x1 x2 x3 x4 x5 x6 x7 : Int} (r0 : (-2) ≤ x0 ∧ x0 ≤ 2) (r1 : (-2) ≤ x1 ∧ x1 ≤ 2) (r2 : (-2) ≤ x2 ∧ x2 ≤ 2) (r3 : (-2) ≤ x3 ∧ x3 ≤ 2) (r4 : (-2) ≤ x4 ∧ x4 ≤ 2) (r5 : (-2) ≤ x5 ∧ x5 ≤ 2) (r6 : (-2) ≤ x6 ∧ x6 ≤ 2) (r7 : (-2) ≤ x7 ∧ x7 ≤ 2) {Q : Value → Prop} (H : (pu_t.only [true, true, true, true, true, true, true, true, true, true, true, true, true, true, true, true, true, true, true]).vc Try.prog Q (fun _ _ => False) (fun _ _ _ => False) none [x0, x1, x2, x3, x4, x5, x6, x7] []) :
 ∃ v, Q v ∧ ∀ w, Calls Try.prog 11 #[.agg #[.int .i64 (x0), .int .i64 (x1), .int .i64 (x2), .int .i64 (x3), .int .i64 (x4), .int .i64 (x5), .int .i64 (x6), .int .i64 (x7)]] w fun e w' => e = .returned v ∧ Below w.heap.size w w' :=
 tree_at mixed names S1_ok (S := S1 Try.prog) (lf := 100000) (d := 60) (args := [(.agg [(.int .i64 (.var 0)), (.int .i64 (.var 1)), (.int .i64 (.var 2)), (.int .i64 (.var 3)), (.int .i64 (.var 4)), (.int .i64 (.var 5)), (.int .i64 (.var 6)), (.int .i64 (.var 7))])]) (pu_t.only [true, true, true, true, true, true, true, true, true, true, true, true, true, true, true, true, true, true, true]) { ivs := [(0, (-2), 2), (1, (-2), 2), (2, (-2), 2), (3, (-2), 2), (4, (-2), 2), (5, (-2), 2), (6, (-2), 2), (7, (-2), 2)], whs := [] } [x0, x1, x2, x3, x4, x5, x6, x7] [] 8 0 rfl rfl (by kernel_rfl) (by kernel_rfl) (by kernel_rfl)
 ⟨(fc r0 (fc r1 (fc r2 (fc r3 (fc r4 (fc r5 (fc r6 (fc r7 fz)))))))), fz⟩ H
theorem pu_p1 {x0 x1 x2 x3 x4 x5 x6 x7 : Int} (r0 : (-2) ≤ x0 ∧ x0 ≤ 2) (r1 : (-2) ≤ x1 ∧ x1 ≤ 2) (r2 : (-2) ≤ x2 ∧ x2 ≤ 2) (r3 : (-2) ≤ x3 ∧ x3 ≤ 2) (r4 : (-2) ≤ x4 ∧ x4 ≤ 2) (r5 : (-2) ≤ x5 ∧ x5 ≤ 2) (r6 : (-2) ≤ x6 ∧ x6 ≤ 2) (r7 : (-2) ≤ x7 ∧ x7 ≤ 2) {Q : Value → Prop} (H : ((pu_t.but [true, true, true, true, true, true, true, true, true, true, true, true, true, true, true, true, true, true, true]).only [true, true, true, true, true]).vc Try.prog Q (fun _ _ => False) (fun _ _ _ => False) none [x0, x1, x2, x3, x4, x5, x6, x7] []) :
 ∃ v, Q v ∧ ∀ w, Calls Try.prog 11 #[.agg #[.int .i64 (x0), .int .i64 (x1), .int .i64 (x2), .int .i64 (x3), .int .i64 (x4), .int .i64 (x5), .int .i64 (x6), .int .i64 (x7)]] w fun e w' => e = .returned v ∧ Below w.heap.size w w' :=
 tree_at mixed names S1_ok (S := S1 Try.prog) (lf := 100000) (d := 60) (args := [(.agg [(.int .i64 (.var 0)), (.int .i64 (.var 1)), (.int .i64 (.var 2)), (.int .i64 (.var 3)), (.int .i64 (.var 4)), (.int .i64 (.var 5)), (.int .i64 (.var 6)), (.int .i64 (.var 7))])]) ((pu_t.but [true, true, true, true, true, true, true, true, true, true, true, true, true, true, true, true, true, true, true]).only [true, true, true, true, true]) { ivs := [(0, (-2), 2), (1, (-2), 2), (2, (-2), 2), (3, (-2), 2), (4, (-2), 2), (5, (-2), 2), (6, (-2), 2), (7, (-2), 2)], whs := [] } [x0, x1, x2, x3, x4, x5, x6, x7] [] 8 0 rfl rfl (by kernel_rfl) (by kernel_rfl) (by kernel_rfl)
 ⟨(fc r0 (fc r1 (fc r2 (fc r3 (fc r4 (fc r5 (fc r6 (fc r7 fz)))))))), fz⟩ H
theorem pu_p2 {x0 x1 x2 x3 x4 x5 x6 x7 : Int} (r0 : (-2) ≤ x0 ∧ x0 ≤ 2) (r1 : (-2) ≤ x1 ∧ x1 ≤ 2) (r2 : (-2) ≤ x2 ∧ x2 ≤ 2) (r3 : (-2) ≤ x3 ∧ x3 ≤ 2) (r4 : (-2) ≤ x4 ∧ x4 ≤ 2) (r5 : (-2) ≤ x5 ∧ x5 ≤ 2) (r6 : (-2) ≤ x6 ∧ x6 ≤ 2) (r7 : (-2) ≤ x7 ∧ x7 ≤ 2) {Q : Value → Prop} (H : (((pu_t.but [true, true, true, true, true, true, true, true, true, true, true, true, true, true, true, true, true, true, true]).but [true, true, true, true, true])).vc Try.prog Q (fun _ _ => False) (fun _ _ _ => False) none [x0, x1, x2, x3, x4, x5, x6, x7] []) :
 ∃ v, Q v ∧ ∀ w, Calls Try.prog 11 #[.agg #[.int .i64 (x0), .int .i64 (x1), .int .i64 (x2), .int .i64 (x3), .int .i64 (x4), .int .i64 (x5), .int .i64 (x6), .int .i64 (x7)]] w fun e w' => e = .returned v ∧ Below w.heap.size w w' :=
 tree_at mixed names S1_ok (S := S1 Try.prog) (lf := 100000) (d := 60) (args := [(.agg [(.int .i64 (.var 0)), (.int .i64 (.var 1)), (.int .i64 (.var 2)), (.int .i64 (.var 3)), (.int .i64 (.var 4)), (.int .i64 (.var 5)), (.int .i64 (.var 6)), (.int .i64 (.var 7))])]) ((pu_t.but [true, true, true, true, true, true, true, true, true, true, true, true, true, true, true, true, true, true, true]).but [true, true, true, true, true]) { ivs := [(0, (-2), 2), (1, (-2), 2), (2, (-2), 2), (3, (-2), 2), (4, (-2), 2), (5, (-2), 2), (6, (-2), 2), (7, (-2), 2)], whs := [] } [x0, x1, x2, x3, x4, x5, x6, x7] [] 8 0 rfl rfl (by kernel_rfl) (by kernel_rfl) (by kernel_rfl)
 ⟨(fc r0 (fc r1 (fc r2 (fc r3 (fc r4 (fc r5 (fc r6 (fc r7 fz)))))))), fz⟩ H
theorem pu {x0 x1 x2 x3 x4 x5 x6 x7 : Int} (r0 : (-2) ≤ x0 ∧ x0 ≤ 2) (r1 : (-2) ≤ x1 ∧ x1 ≤ 2) (r2 : (-2) ≤ x2 ∧ x2 ≤ 2) (r3 : (-2) ≤ x3 ∧ x3 ≤ 2) (r4 : (-2) ≤ x4 ∧ x4 ≤ 2) (r5 : (-2) ≤ x5 ∧ x5 ≤ 2) (r6 : (-2) ≤ x6 ∧ x6 ≤ 2) (r7 : (-2) ≤ x7 ∧ x7 ≤ 2) {Q : Value → Prop} (H :
  ((∀ w, Calls Try.prog 20 #[] w fun e w' => e = .returned (.bool (true)) ∧ Below w.heap.size w w') ∧
   ((((x0 : Int) == 0) && (((x1 : Int) == 0) && (((x2 : Int) == 0) && (((x3 : Int) == 0) && (((x4 : Int) == 0) && (((x5 : Int) == 0) && (((x6 : Int) == 0) && ((x7 : Int) == 0)))))))) = false ∧ (∃ v8 : Int, ∃ v9 : Int, ∃ v10 : Int, ∃ v11 : Int, ∃ v12 : Int, ∃ v13 : Int, ∃ v14 : Int, ∃ v15 : Int, ∃ v16 : Int, ∃ v17 : Int, ∃ v18 : Int, ∃ v19 : Int, ∃ v20 : Int, ∃ v21 : Int, ∃ v22 : Int, ∃ v23 : Int, ∃ v24 : Int, (∀ w, Calls Try.prog 53 #[.agg #[.complex .f64 (FloatKind.f64.nearest x0) (FloatKind.f64.nearest x1), .complex .f64 (FloatKind.f64.nearest x2) (FloatKind.f64.nearest x3), .complex .f64 (FloatKind.f64.nearest x4) (FloatKind.f64.nearest x5), .complex .f64 (FloatKind.f64.nearest x6) (FloatKind.f64.nearest x7)]] w fun e w' => e = .returned (.tuple #[.agg #[.int .i64 (v8), .int .i64 (v9), .int .i64 (v10), .int .i64 (v11), .int .i64 (v12), .int .i64 (v13), .int .i64 (v14), .int .i64 (v15), .int .i64 (v16), .int .i64 (v17), .int .i64 (v18), .int .i64 (v19), .int .i64 (v20), .int .i64 (v21), .int .i64 (v22), .int .i64 (v23)], .int .i64 (v24)]) ∧ Below w.heap.size w w') ∧
   (((-64) ≤ v8 ∧ v8 ≤ 64) ∧ (((-64) ≤ v9 ∧ v9 ≤ 64) ∧ (((-64) ≤ v10 ∧ v10 ≤ 64) ∧ (((-64) ≤ v11 ∧ v11 ≤ 64) ∧ (((-64) ≤ v12 ∧ v12 ≤ 64) ∧ (((-64) ≤ v13 ∧ v13 ≤ 64) ∧ (((-64) ≤ v14 ∧ v14 ≤ 64) ∧ (((-64) ≤ v15 ∧ v15 ≤ 64) ∧ (((-64) ≤ v16 ∧ v16 ≤ 64) ∧ (((-64) ≤ v17 ∧ v17 ≤ 64) ∧ (((-64) ≤ v18 ∧ v18 ≤ 64) ∧ (((-64) ≤ v19 ∧ v19 ≤ 64) ∧ (((-64) ≤ v20 ∧ v20 ≤ 64) ∧ (((-64) ≤ v21 ∧ v21 ≤ 64) ∧ (((-64) ≤ v22 ∧ v22 ≤ 64) ∧ (((-64) ≤ v23 ∧ v23 ≤ 64) ∧ (∃ v25 : Int, ∃ v26 : Int, ∃ v27 : Int, ∃ v28 : Int, ∃ v29 : Int, ∃ v30 : Int, ∃ v31 : Int, ∃ v32 : Int, ∃ v33 : Int, (∀ w, Calls Try.prog 64 #[.agg #[.int .i64 (v8), .int .i64 (v9), .int .i64 (v10), .int .i64 (v11), .int .i64 (v12), .int .i64 (v13), .int .i64 (v14), .int .i64 (v15), .int .i64 (v16), .int .i64 (v17), .int .i64 (v18), .int .i64 (v19), .int .i64 (v20), .int .i64 (v21), .int .i64 (v22), .int .i64 (v23)]] w fun e w' => e = .returned (.tuple #[.agg #[.complex .f64 (v25 : Int).toNat (v26 : Int).toNat, .complex .f64 (v27 : Int).toNat (v28 : Int).toNat, .complex .f64 (v29 : Int).toNat (v30 : Int).toNat, .complex .f64 (v31 : Int).toNat (v32 : Int).toNat], .int .i64 (v33)]) ∧ Below w.heap.size w w') ∧
   (∃ v34 : Int, (Rp (v25 : Int).toNat v34 ∧ v34.natAbs ≤ 1000) ∧ (((-1000) ≤ v34 ∧ v34 ≤ 1000) ∧ (∃ v35 : Int, (Rp (v26 : Int).toNat v35 ∧ v35.natAbs ≤ 1000) ∧ (((-1000) ≤ v35 ∧ v35 ≤ 1000) ∧ (∃ v36 : Int, (Rp (v27 : Int).toNat v36 ∧ v36.natAbs ≤ 1000) ∧ (((-1000) ≤ v36 ∧ v36 ≤ 1000) ∧ (∃ v37 : Int, (Rp (v28 : Int).toNat v37 ∧ v37.natAbs ≤ 1000) ∧ (((-1000) ≤ v37 ∧ v37 ≤ 1000) ∧ (∃ v38 : Int, (Rp (v29 : Int).toNat v38 ∧ v38.natAbs ≤ 1000) ∧ (((-1000) ≤ v38 ∧ v38 ≤ 1000) ∧ (∃ v39 : Int, (Rp (v30 : Int).toNat v39 ∧ v39.natAbs ≤ 1000) ∧ (((-1000) ≤ v39 ∧ v39 ≤ 1000) ∧ (∃ v40 : Int, (Rp (v31 : Int).toNat v40 ∧ v40.natAbs ≤ 1000) ∧ (((-1000) ≤ v40 ∧ v40 ≤ 1000) ∧ (∃ v41 : Int, (Rp (v32 : Int).toNat v41 ∧ v41.natAbs ≤ 1000) ∧ (((-1000) ≤ v41 ∧ v41 ≤ 1000) ∧ (∃ v42 : Int, ∃ v43 : Int, ∃ v44 : Int, (∀ w, Calls Try.prog 66 #[.agg #[.int .i64 (v8), .int .i64 (v9), .int .i64 (v10), .int .i64 (v11), .int .i64 (v12), .int .i64 (v13), .int .i64 (v14), .int .i64 (v15), .int .i64 (v16), .int .i64 (v17), .int .i64 (v18), .int .i64 (v19), .int .i64 (v20), .int .i64 (v21), .int .i64 (v22), .int .i64 (v23)]] w fun e w' => e = .returned (.tuple #[.agg #[.int .i64 (v42), .int .i64 (v43)], .int .i64 (v44)]) ∧ Below w.heap.size w w') ∧
   ((((v24 : Int) == 0) = true → ((((v33 : Int) == 0) = true → ((((v44 : Int) == 0) = true → ((((v42 : Int) == 1) = true → ((((v43 : Int) == 1) = true → ((((((x0 * v36) - (x1 * v37)) : Int) == ((x2 * v34) - (x3 * v35))) = true → ((((((x0 * v37) + (x1 * v36)) : Int) == ((x2 * v35) + (x3 * v34))) = true → ((((((x0 * v38) - (x1 * v39)) : Int) == ((x4 * v34) - (x5 * v35))) = true → ((((((x0 * v39) + (x1 * v38)) : Int) == ((x4 * v35) + (x5 * v34))) = true → ((((((x0 * v40) - (x1 * v41)) : Int) == ((x6 * v34) - (x7 * v35))) = true → ((((((x0 * v41) + (x1 * v40)) : Int) == ((x6 * v35) + (x7 * v34))) = true → ((((((x2 * v34) - (x3 * v35)) : Int) == ((x0 * v36) - (x1 * v37))) = true → ((((((x2 * v35) + (x3 * v34)) : Int) == ((x0 * v37) + (x1 * v36))) = true → ((((((x2 * v38) - (x3 * v39)) : Int) == ((x4 * v36) - (x5 * v37))) = true → ((((((x2 * v39) + (x3 * v38)) : Int) == ((x4 * v37) + (x5 * v36))) = true → ((((((x2 * v40) - (x3 * v41)) : Int) == ((x6 * v36) - (x7 * v37))) = true → ((((((x2 * v41) + (x3 * v40)) : Int) == ((x6 * v37) + (x7 * v36))) = true → ((((((x4 * v34) - (x5 * v35)) : Int) == ((x0 * v38) - (x1 * v39))) = true → ((((((x4 * v35) + (x5 * v34)) : Int) == ((x0 * v39) + (x1 * v38))) = true → ((((((x4 * v36) - (x5 * v37)) : Int) == ((x2 * v38) - (x3 * v39))) = true → ((((((x4 * v37) + (x5 * v36)) : Int) == ((x2 * v39) + (x3 * v38))) = true → ((((((x4 * v40) - (x5 * v41)) : Int) == ((x6 * v38) - (x7 * v39))) = true → ((((((x4 * v41) + (x5 * v40)) : Int) == ((x6 * v39) + (x7 * v38))) = true → ((((((x6 * v34) - (x7 * v35)) : Int) == ((x0 * v40) - (x1 * v41))) = true → ((((((x6 * v35) + (x7 * v34)) : Int) == ((x0 * v41) + (x1 * v40))) = true → ((((((x6 * v36) - (x7 * v37)) : Int) == ((x2 * v40) - (x3 * v41))) = true → ((((((x6 * v37) + (x7 * v36)) : Int) == ((x2 * v41) + (x3 * v40))) = true → ((((((x6 * v38) - (x7 * v39)) : Int) == ((x4 * v40) - (x5 * v41))) = true → ((((((x6 * v39) + (x7 * v38)) : Int) == ((x4 * v41) + (x5 * v40))) = true → (∃ v45 : Int, ∃ u0 : Bool, (∀ w, Calls Try.prog 67 #[.agg #[.int .i64 (v8), .int .i64 (v9), .int .i64 (v10), .int .i64 (v11), .int .i64 (v12), .int .i64 (v13), .int .i64 (v14), .int .i64 (v15), .int .i64 (v16), .int .i64 (v17), .int .i64 (v18), .int .i64 (v19), .int .i64 (v20), .int .i64 (v21), .int .i64 (v22), .int .i64 (v23)]] w fun e w' => e = .returned (.tuple #[.bool (u0), .int .i64 (v45)]) ∧ Below w.heap.size w w') ∧
                                ((((v45 : Int) == 8) = true → ((u0 = true → Q (.bool (false))) ∧
                                 (u0 = false → Q (.bool (true))))) ∧
                                (((v45 : Int) == 8) = false → ((((v45 : Int) == 0) = true → Q (.bool (u0))) ∧
                                 (((v45 : Int) == 0) = false → Q (.bool (false)))))))) ∧
                               (((((x6 * v39) + (x7 * v38)) : Int) == ((x4 * v41) + (x5 * v40))) = false → Q (.bool (false))))) ∧
                              (((((x6 * v38) - (x7 * v39)) : Int) == ((x4 * v40) - (x5 * v41))) = false → Q (.bool (false))))) ∧
                             (((((x6 * v37) + (x7 * v36)) : Int) == ((x2 * v41) + (x3 * v40))) = false → Q (.bool (false))))) ∧
                            (((((x6 * v36) - (x7 * v37)) : Int) == ((x2 * v40) - (x3 * v41))) = false → Q (.bool (false))))) ∧
                           (((((x6 * v35) + (x7 * v34)) : Int) == ((x0 * v41) + (x1 * v40))) = false → Q (.bool (false))))) ∧
                          (((((x6 * v34) - (x7 * v35)) : Int) == ((x0 * v40) - (x1 * v41))) = false → Q (.bool (false))))) ∧
                         (((((x4 * v41) + (x5 * v40)) : Int) == ((x6 * v39) + (x7 * v38))) = false → Q (.bool (false))))) ∧
                        (((((x4 * v40) - (x5 * v41)) : Int) == ((x6 * v38) - (x7 * v39))) = false → Q (.bool (false))))) ∧
                       (((((x4 * v37) + (x5 * v36)) : Int) == ((x2 * v39) + (x3 * v38))) = false → Q (.bool (false))))) ∧
                      (((((x4 * v36) - (x5 * v37)) : Int) == ((x2 * v38) - (x3 * v39))) = false → Q (.bool (false))))) ∧
                     (((((x4 * v35) + (x5 * v34)) : Int) == ((x0 * v39) + (x1 * v38))) = false → Q (.bool (false))))) ∧
                    (((((x4 * v34) - (x5 * v35)) : Int) == ((x0 * v38) - (x1 * v39))) = false → Q (.bool (false))))) ∧
                   (((((x2 * v41) + (x3 * v40)) : Int) == ((x6 * v37) + (x7 * v36))) = false → Q (.bool (false))))) ∧
                  (((((x2 * v40) - (x3 * v41)) : Int) == ((x6 * v36) - (x7 * v37))) = false → Q (.bool (false))))) ∧
                 (((((x2 * v39) + (x3 * v38)) : Int) == ((x4 * v37) + (x5 * v36))) = false → Q (.bool (false))))) ∧
                (((((x2 * v38) - (x3 * v39)) : Int) == ((x4 * v36) - (x5 * v37))) = false → Q (.bool (false))))) ∧
               (((((x2 * v35) + (x3 * v34)) : Int) == ((x0 * v37) + (x1 * v36))) = false → Q (.bool (false))))) ∧
              (((((x2 * v34) - (x3 * v35)) : Int) == ((x0 * v36) - (x1 * v37))) = false → Q (.bool (false))))) ∧
             (((((x0 * v41) + (x1 * v40)) : Int) == ((x6 * v35) + (x7 * v34))) = false → Q (.bool (false))))) ∧
            (((((x0 * v40) - (x1 * v41)) : Int) == ((x6 * v34) - (x7 * v35))) = false → Q (.bool (false))))) ∧
           (((((x0 * v39) + (x1 * v38)) : Int) == ((x4 * v35) + (x5 * v34))) = false → Q (.bool (false))))) ∧
          (((((x0 * v38) - (x1 * v39)) : Int) == ((x4 * v34) - (x5 * v35))) = false → Q (.bool (false))))) ∧
         (((((x0 * v37) + (x1 * v36)) : Int) == ((x2 * v35) + (x3 * v34))) = false → Q (.bool (false))))) ∧
        (((((x0 * v36) - (x1 * v37)) : Int) == ((x2 * v34) - (x3 * v35))) = false → Q (.bool (false))))) ∧
       (((v43 : Int) == 1) = false → Q (.bool (false))))) ∧
      (((v42 : Int) == 1) = false → Q (.bool (false))))) ∧
     (((v44 : Int) == 0) = false → Q (.bool (false))))) ∧
    (((v33 : Int) == 0) = false → Q (.bool (false))))) ∧
   (((v24 : Int) == 0) = false → Q (.bool (false)))))))))))))))))))))))))))))))))))))))))) :
    ∃ v, Q v ∧ ∀ w, Calls Try.prog 11 #[.agg #[.int .i64 (x0), .int .i64 (x1), .int .i64 (x2), .int .i64 (x3), .int .i64 (x4), .int .i64 (x5), .int .i64 (x6), .int .i64 (x7)]] w fun e w' => e = .returned v ∧ Below w.heap.size w w' := by
  have H0 : pu_t.vc Try.prog Q (fun _ _ => False) (fun _ _ _ => False) none [x0, x1, x2, x3, x4, x5, x6, x7] [] := Eq.mp (by kernel_rfl) H
  rcases split_vc _ [true, true, true, true, true, true, true, true, true, true, true, true, true, true, true, true, true, true, true] H0 with g | H1
  · exact pu_p0 r0 r1 r2 r3 r4 r5 r6 r7 g
  rcases split_vc _ [true, true, true, true, true] H1 with g | H2
  · exact pu_p1 r0 r1 r2 r3 r4 r5 r6 r7 g
  exact pu_p2 r0 r1 r2 r3 r4 r5 r6 r7 H2
def pv_t : Tr :=
 (.call 20 [] (.bool (.lit true)) 0 0
 (.ite (.icmp .leq (.lit (-2)) (.var 0))
 (.ite (.icmp .leq (.var 0) (.lit 2))
 (.ite (.icmp .leq (.lit (-2)) (.var 1))
 (.ite (.icmp .leq (.var 1) (.lit 2))
 (.ite (.icmp .leq (.lit (-2)) (.var 2))
 (.ite (.icmp .leq (.var 2) (.lit 2))
 (.ite (.icmp .leq (.lit (-2)) (.var 3))
 (.ite (.icmp .leq (.var 3) (.lit 2))
 (.ite (.icmp .leq (.lit (-2)) (.var 4))
 (.ite (.icmp .leq (.var 4) (.lit 2))
 (.ite (.icmp .leq (.lit (-2)) (.var 5))
 (.ite (.icmp .leq (.var 5) (.lit 2))
 (.ite (.icmp .leq (.lit (-2)) (.var 6))
 (.ite (.icmp .leq (.var 6) (.lit 2))
 (.ite (.icmp .leq (.lit (-2)) (.var 7))
 (.ite (.icmp .leq (.var 7) (.lit 2))
 (.ite (.icmp .eql (.var 0) (.lit 0))
 (.ite (.icmp .eql (.var 1) (.lit 0))
 (.ite (.icmp .eql (.var 2) (.lit 0))
 (.ite (.icmp .eql (.var 3) (.lit 0))
 (.ite (.icmp .eql (.var 4) (.lit 0))
 (.ite (.icmp .eql (.var 5) (.lit 0))
 (.ite (.icmp .eql (.var 6) (.lit 0))
 (.ite (.icmp .eql (.var 7) (.lit 0))
 (.leaf (.bool (.lit true)))
 .nil)
 .nil)
 .nil)
 .nil)
 .nil)
 .nil)
 .nil)
 .nil)
 (.leaf (.bool (.lit true))))
 (.leaf (.bool (.lit true))))
 (.leaf (.bool (.lit true))))
 (.leaf (.bool (.lit true))))
 (.leaf (.bool (.lit true))))
 (.leaf (.bool (.lit true))))
 (.leaf (.bool (.lit true))))
 (.leaf (.bool (.lit true))))
 (.leaf (.bool (.lit true))))
 (.leaf (.bool (.lit true))))
 (.leaf (.bool (.lit true))))
 (.leaf (.bool (.lit true))))
 (.leaf (.bool (.lit true))))
 (.leaf (.bool (.lit true))))
 (.leaf (.bool (.lit true))))
 (.leaf (.bool (.lit true)))))
theorem pv {x0 x1 x2 x3 x4 x5 x6 x7 : Int} (r0 : (-9223372036854775808) ≤ x0 ∧ x0 ≤ 9223372036854775807) (r1 : (-9223372036854775808) ≤ x1 ∧ x1 ≤ 9223372036854775807) (r2 : (-9223372036854775808) ≤ x2 ∧ x2 ≤ 9223372036854775807) (r3 : (-9223372036854775808) ≤ x3 ∧ x3 ≤ 9223372036854775807) (r4 : (-9223372036854775808) ≤ x4 ∧ x4 ≤ 9223372036854775807) (r5 : (-9223372036854775808) ≤ x5 ∧ x5 ≤ 9223372036854775807) (r6 : (-9223372036854775808) ≤ x6 ∧ x6 ≤ 9223372036854775807) (r7 : (-9223372036854775808) ≤ x7 ∧ x7 ≤ 9223372036854775807) {Q : Value → Prop} (H :
 ((∀ w, Calls Try.prog 20 #[] w fun e w' => e = .returned (.bool (true)) ∧ Below w.heap.size w w') ∧
 ((decide (((-2) : Int) ≤ x0) = true → ((decide ((x0 : Int) ≤ 2) = true → ((decide (((-2) : Int) ≤ x1) = true → ((decide ((x1 : Int) ≤ 2) = true → ((decide (((-2) : Int) ≤ x2) = true → ((decide ((x2 : Int) ≤ 2) = true → ((decide (((-2) : Int) ≤ x3) = true → ((decide ((x3 : Int) ≤ 2) = true → ((decide (((-2) : Int) ≤ x4) = true → ((decide ((x4 : Int) ≤ 2) = true → ((decide (((-2) : Int) ≤ x5) = true → ((decide ((x5 : Int) ≤ 2) = true → ((decide (((-2) : Int) ≤ x6) = true → ((decide ((x6 : Int) ≤ 2) = true → ((decide (((-2) : Int) ≤ x7) = true → ((decide ((x7 : Int) ≤ 2) = true → ((((x0 : Int) == 0) = true → ((((x1 : Int) == 0) = true → ((((x2 : Int) == 0) = true → ((((x3 : Int) == 0) = true → ((((x4 : Int) == 0) = true → ((((x5 : Int) == 0) = true → ((((x6 : Int) == 0) = true → ((((x7 : Int) == 0) = true → Q (.bool (true))) ∧
 (((x7 : Int) == 0) = false → False))) ∧
 (((x6 : Int) == 0) = false → False))) ∧
 (((x5 : Int) == 0) = false → False))) ∧
 (((x4 : Int) == 0) = false → False))) ∧
 (((x3 : Int) == 0) = false → False))) ∧
 (((x2 : Int) == 0) = false → False))) ∧
 (((x1 : Int) == 0) = false → False))) ∧
 (((x0 : Int) == 0) = false → False))) ∧
 (decide ((x7 : Int) ≤ 2) = false → Q (.bool (true))))) ∧
 (decide (((-2) : Int) ≤ x7) = false → Q (.bool (true))))) ∧
 (decide ((x6 : Int) ≤ 2) = false → Q (.bool (true))))) ∧
 (decide (((-2) : Int) ≤ x6) = false → Q (.bool (true))))) ∧
 (decide ((x5 : Int) ≤ 2) = false → Q (.bool (true))))) ∧
 (decide (((-2) : Int) ≤ x5) = false → Q (.bool (true))))) ∧
 (decide ((x4 : Int) ≤ 2) = false → Q (.bool (true))))) ∧
 (decide (((-2) : Int) ≤ x4) = false → Q (.bool (true))))) ∧
 (decide ((x3 : Int) ≤ 2) = false → Q (.bool (true))))) ∧
 (decide (((-2) : Int) ≤ x3) = false → Q (.bool (true))))) ∧
 (decide ((x2 : Int) ≤ 2) = false → Q (.bool (true))))) ∧
 (decide (((-2) : Int) ≤ x2) = false → Q (.bool (true))))) ∧
 (decide ((x1 : Int) ≤ 2) = false → Q (.bool (true))))) ∧
 (decide (((-2) : Int) ≤ x1) = false → Q (.bool (true))))) ∧
 (decide ((x0 : Int) ≤ 2) = false → Q (.bool (true))))) ∧
 (decide (((-2) : Int) ≤ x0) = false → Q (.bool (true)))))) :
 ∃ v, Q v ∧ ∀ w, Calls Try.prog 11 #[.agg #[.int .i64 (x0), .int .i64 (x1), .int .i64 (x2), .int .i64 (x3), .int .i64 (x4), .int .i64 (x5), .int .i64 (x6), .int .i64 (x7)]] w fun e w' => e = .returned v ∧ Below w.heap.size w w' :=
 tree_at mixed names S1_ok (S := S1 Try.prog) (lf := 100000) (d := 60) (args := [(.agg [(.int .i64 (.var 0)), (.int .i64 (.var 1)), (.int .i64 (.var 2)), (.int .i64 (.var 3)), (.int .i64 (.var 4)), (.int .i64 (.var 5)), (.int .i64 (.var 6)), (.int .i64 (.var 7))])]) pv_t { ivs := [(0, (-9223372036854775808), 9223372036854775807), (1, (-9223372036854775808), 9223372036854775807), (2, (-9223372036854775808), 9223372036854775807), (3, (-9223372036854775808), 9223372036854775807), (4, (-9223372036854775808), 9223372036854775807), (5, (-9223372036854775808), 9223372036854775807), (6, (-9223372036854775808), 9223372036854775807), (7, (-9223372036854775808), 9223372036854775807)], whs := [] } [x0, x1, x2, x3, x4, x5, x6, x7] [] 8 0 rfl rfl (by kernel_rfl) (by kernel_rfl) (by kernel_rfl)
 ⟨(fc r0 (fc r1 (fc r2 (fc r3 (fc r4 (fc r5 (fc r6 (fc r7 fz)))))))), fz⟩ (Eq.mp (by kernel_rfl) H)
def pct_t : Tr :=
 (.ite (.icmp .leq (.lit (-40)) (.var 0))
 (.ite (.icmp .leq (.var 0) (.lit 40))
 (.ite (.icmp .leq (.lit (-40)) (.var 1))
 (.ite (.icmp .leq (.var 1) (.lit 40))
 (.ite (.icmp .leq (.lit (-40)) (.var 2))
 (.ite (.icmp .leq (.var 2) (.lit 40))
 (.ite (.icmp .leq (.lit (-40)) (.var 3))
 (.ite (.icmp .leq (.var 3) (.lit 40))
 (.ite (.icmp .leq (.lit (-40)) (.var 4))
 (.ite (.icmp .leq (.var 4) (.lit 40))
 (.ite (.icmp .leq (.lit (-40)) (.var 5))
 (.ite (.icmp .leq (.var 5) (.lit 40))
 (.ite (.icmp .leq (.lit (-40)) (.var 6))
 (.ite (.icmp .leq (.var 6) (.lit 40))
 (.ite (.icmp .leq (.lit (-40)) (.var 7))
 (.ite (.icmp .leq (.var 7) (.lit 40))
 (.ite (.icmp .leq (.lit (-40)) (.var 8))
 (.ite (.icmp .leq (.var 8) (.lit 40))
 (.ite (.icmp .leq (.lit (-40)) (.var 9))
 (.ite (.icmp .leq (.var 9) (.lit 40))
 (.ite (.icmp .leq (.lit (-40)) (.var 10))
 (.ite (.icmp .leq (.var 10) (.lit 40))
 (.ite (.icmp .leq (.lit (-40)) (.var 11))
 (.ite (.icmp .leq (.var 11) (.lit 40))
 (.ite (.icmp .leq (.lit (-40)) (.var 12))
 (.ite (.icmp .leq (.var 12) (.lit 40))
 (.ite (.icmp .leq (.lit (-40)) (.var 13))
 (.ite (.icmp .leq (.var 13) (.lit 40))
 (.ite (.icmp .leq (.lit (-40)) (.var 14))
 (.ite (.icmp .leq (.var 14) (.lit 40))
 (.ite (.icmp .leq (.lit (-40)) (.var 15))
 (.ite (.icmp .leq (.var 15) (.lit 40))
 (.leaf (.int .i64 (.lit 0)))
 (.leaf (.int .i64 (.lit 8))))
 (.leaf (.int .i64 (.lit 8))))
 (.leaf (.int .i64 (.lit 8))))
 (.leaf (.int .i64 (.lit 8))))
 (.leaf (.int .i64 (.lit 8))))
 (.leaf (.int .i64 (.lit 8))))
 (.leaf (.int .i64 (.lit 8))))
 (.leaf (.int .i64 (.lit 8))))
 (.leaf (.int .i64 (.lit 8))))
 (.leaf (.int .i64 (.lit 8))))
 (.leaf (.int .i64 (.lit 8))))
 (.leaf (.int .i64 (.lit 8))))
 (.leaf (.int .i64 (.lit 8))))
 (.leaf (.int .i64 (.lit 8))))
 (.leaf (.int .i64 (.lit 8))))
 (.leaf (.int .i64 (.lit 8))))
 (.leaf (.int .i64 (.lit 8))))
 (.leaf (.int .i64 (.lit 8))))
 (.leaf (.int .i64 (.lit 8))))
 (.leaf (.int .i64 (.lit 8))))
 (.leaf (.int .i64 (.lit 8))))
 (.leaf (.int .i64 (.lit 8))))
 (.leaf (.int .i64 (.lit 8))))
 (.leaf (.int .i64 (.lit 8))))
 (.leaf (.int .i64 (.lit 8))))
 (.leaf (.int .i64 (.lit 8))))
 (.leaf (.int .i64 (.lit 8))))
 (.leaf (.int .i64 (.lit 8))))
 (.leaf (.int .i64 (.lit 8))))
 (.leaf (.int .i64 (.lit 8))))
 (.leaf (.int .i64 (.lit 8))))
 (.leaf (.int .i64 (.lit 8))))
theorem pct {m0 m1 m2 m3 m4 m5 m6 m7 m8 m9 m10 m11 m12 m13 m14 m15 : Int} (r0 : (-64) ≤ m0 ∧ m0 ≤ 64) (r1 : (-64) ≤ m1 ∧ m1 ≤ 64) (r2 : (-64) ≤ m2 ∧ m2 ≤ 64) (r3 : (-64) ≤ m3 ∧ m3 ≤ 64) (r4 : (-64) ≤ m4 ∧ m4 ≤ 64) (r5 : (-64) ≤ m5 ∧ m5 ≤ 64) (r6 : (-64) ≤ m6 ∧ m6 ≤ 64) (r7 : (-64) ≤ m7 ∧ m7 ≤ 64) (r8 : (-64) ≤ m8 ∧ m8 ≤ 64) (r9 : (-64) ≤ m9 ∧ m9 ≤ 64) (r10 : (-64) ≤ m10 ∧ m10 ≤ 64) (r11 : (-64) ≤ m11 ∧ m11 ≤ 64) (r12 : (-64) ≤ m12 ∧ m12 ≤ 64) (r13 : (-64) ≤ m13 ∧ m13 ≤ 64) (r14 : (-64) ≤ m14 ∧ m14 ≤ 64) (r15 : (-64) ≤ m15 ∧ m15 ≤ 64) {Q : Value → Prop} (H :
 ((decide (((-40) : Int) ≤ m0) = true → ((decide ((m0 : Int) ≤ 40) = true → ((decide (((-40) : Int) ≤ m1) = true → ((decide ((m1 : Int) ≤ 40) = true → ((decide (((-40) : Int) ≤ m2) = true → ((decide ((m2 : Int) ≤ 40) = true → ((decide (((-40) : Int) ≤ m3) = true → ((decide ((m3 : Int) ≤ 40) = true → ((decide (((-40) : Int) ≤ m4) = true → ((decide ((m4 : Int) ≤ 40) = true → ((decide (((-40) : Int) ≤ m5) = true → ((decide ((m5 : Int) ≤ 40) = true → ((decide (((-40) : Int) ≤ m6) = true → ((decide ((m6 : Int) ≤ 40) = true → ((decide (((-40) : Int) ≤ m7) = true → ((decide ((m7 : Int) ≤ 40) = true → ((decide (((-40) : Int) ≤ m8) = true → ((decide ((m8 : Int) ≤ 40) = true → ((decide (((-40) : Int) ≤ m9) = true → ((decide ((m9 : Int) ≤ 40) = true → ((decide (((-40) : Int) ≤ m10) = true → ((decide ((m10 : Int) ≤ 40) = true → ((decide (((-40) : Int) ≤ m11) = true → ((decide ((m11 : Int) ≤ 40) = true → ((decide (((-40) : Int) ≤ m12) = true → ((decide ((m12 : Int) ≤ 40) = true → ((decide (((-40) : Int) ≤ m13) = true → ((decide ((m13 : Int) ≤ 40) = true → ((decide (((-40) : Int) ≤ m14) = true → ((decide ((m14 : Int) ≤ 40) = true → ((decide (((-40) : Int) ≤ m15) = true → ((decide ((m15 : Int) ≤ 40) = true → Q (.int .i64 (0))) ∧
 (decide ((m15 : Int) ≤ 40) = false → Q (.int .i64 (8))))) ∧
 (decide (((-40) : Int) ≤ m15) = false → Q (.int .i64 (8))))) ∧
 (decide ((m14 : Int) ≤ 40) = false → Q (.int .i64 (8))))) ∧
 (decide (((-40) : Int) ≤ m14) = false → Q (.int .i64 (8))))) ∧
 (decide ((m13 : Int) ≤ 40) = false → Q (.int .i64 (8))))) ∧
 (decide (((-40) : Int) ≤ m13) = false → Q (.int .i64 (8))))) ∧
 (decide ((m12 : Int) ≤ 40) = false → Q (.int .i64 (8))))) ∧
 (decide (((-40) : Int) ≤ m12) = false → Q (.int .i64 (8))))) ∧
 (decide ((m11 : Int) ≤ 40) = false → Q (.int .i64 (8))))) ∧
 (decide (((-40) : Int) ≤ m11) = false → Q (.int .i64 (8))))) ∧
 (decide ((m10 : Int) ≤ 40) = false → Q (.int .i64 (8))))) ∧
 (decide (((-40) : Int) ≤ m10) = false → Q (.int .i64 (8))))) ∧
 (decide ((m9 : Int) ≤ 40) = false → Q (.int .i64 (8))))) ∧
 (decide (((-40) : Int) ≤ m9) = false → Q (.int .i64 (8))))) ∧
 (decide ((m8 : Int) ≤ 40) = false → Q (.int .i64 (8))))) ∧
 (decide (((-40) : Int) ≤ m8) = false → Q (.int .i64 (8))))) ∧
 (decide ((m7 : Int) ≤ 40) = false → Q (.int .i64 (8))))) ∧
 (decide (((-40) : Int) ≤ m7) = false → Q (.int .i64 (8))))) ∧
 (decide ((m6 : Int) ≤ 40) = false → Q (.int .i64 (8))))) ∧
 (decide (((-40) : Int) ≤ m6) = false → Q (.int .i64 (8))))) ∧
 (decide ((m5 : Int) ≤ 40) = false → Q (.int .i64 (8))))) ∧
 (decide (((-40) : Int) ≤ m5) = false → Q (.int .i64 (8))))) ∧
 (decide ((m4 : Int) ≤ 40) = false → Q (.int .i64 (8))))) ∧
 (decide (((-40) : Int) ≤ m4) = false → Q (.int .i64 (8))))) ∧
 (decide ((m3 : Int) ≤ 40) = false → Q (.int .i64 (8))))) ∧
 (decide (((-40) : Int) ≤ m3) = false → Q (.int .i64 (8))))) ∧
 (decide ((m2 : Int) ≤ 40) = false → Q (.int .i64 (8))))) ∧
 (decide (((-40) : Int) ≤ m2) = false → Q (.int .i64 (8))))) ∧
 (decide ((m1 : Int) ≤ 40) = false → Q (.int .i64 (8))))) ∧
 (decide (((-40) : Int) ≤ m1) = false → Q (.int .i64 (8))))) ∧
 (decide ((m0 : Int) ≤ 40) = false → Q (.int .i64 (8))))) ∧
 (decide (((-40) : Int) ≤ m0) = false → Q (.int .i64 (8))))) :
 ∃ v, Q v ∧ ∀ w, Calls Try.prog 127 #[.agg #[.int .i64 (m0), .int .i64 (m1), .int .i64 (m2), .int .i64 (m3), .int .i64 (m4), .int .i64 (m5), .int .i64 (m6), .int .i64 (m7), .int .i64 (m8), .int .i64 (m9), .int .i64 (m10), .int .i64 (m11), .int .i64 (m12), .int .i64 (m13), .int .i64 (m14), .int .i64 (m15)]] w fun e w' => e = .returned v ∧ Below w.heap.size w w' :=
 tree_at mixed names S1_ok (S := S1 Try.prog) (lf := 100000) (d := 60) (args := [(.agg [(.int .i64 (.var 0)), (.int .i64 (.var 1)), (.int .i64 (.var 2)), (.int .i64 (.var 3)), (.int .i64 (.var 4)), (.int .i64 (.var 5)), (.int .i64 (.var 6)), (.int .i64 (.var 7)), (.int .i64 (.var 8)), (.int .i64 (.var 9)), (.int .i64 (.var 10)), (.int .i64 (.var 11)), (.int .i64 (.var 12)), (.int .i64 (.var 13)), (.int .i64 (.var 14)), (.int .i64 (.var 15))])]) pct_t { ivs := [(0, (-64), 64), (1, (-64), 64), (2, (-64), 64), (3, (-64), 64), (4, (-64), 64), (5, (-64), 64), (6, (-64), 64), (7, (-64), 64), (8, (-64), 64), (9, (-64), 64), (10, (-64), 64), (11, (-64), 64), (12, (-64), 64), (13, (-64), 64), (14, (-64), 64), (15, (-64), 64)], whs := [] } [m0, m1, m2, m3, m4, m5, m6, m7, m8, m9, m10, m11, m12, m13, m14, m15] [] 16 0 rfl rfl (by kernel_rfl) (by kernel_rfl) (by kernel_rfl)
 ⟨(fc r0 (fc r1 (fc r2 (fc r3 (fc r4 (fc r5 (fc r6 (fc r7 (fc r8 (fc r9 (fc r10 (fc r11 (fc r12 (fc r13 (fc r14 (fc r15 fz)))))))))))))))), fz⟩ (Eq.mp (by kernel_rfl) H)
def phx_t : Tr :=
 (.call 127 [(.agg [(.int .i64 (.var 0)), (.int .i64 (.var 1)), (.int .i64 (.var 2)), (.int .i64 (.var 3)), (.int .i64 (.var 4)), (.int .i64 (.var 5)), (.int .i64 (.var 6)), (.int .i64 (.var 7)), (.int .i64 (.var 8)), (.int .i64 (.var 9)), (.int .i64 (.var 10)), (.int .i64 (.var 11)), (.int .i64 (.var 12)), (.int .i64 (.var 13)), (.int .i64 (.var 14)), (.int .i64 (.var 15))])] (.int .i64 (.var 16)) 1 0
 (.rng 16 1 100 (.leaf (.tuple [(.bool (.lit false)), (.int .i64 (.var 16))]))))
theorem phx {m0 m1 m2 m3 m4 m5 m6 m7 m8 m9 m10 m11 m12 m13 m14 m15 : Int} (r0 : (-64) ≤ m0 ∧ m0 ≤ 64) (r1 : (-64) ≤ m1 ∧ m1 ≤ 64) (r2 : (-64) ≤ m2 ∧ m2 ≤ 64) (r3 : (-64) ≤ m3 ∧ m3 ≤ 64) (r4 : (-64) ≤ m4 ∧ m4 ≤ 64) (r5 : (-64) ≤ m5 ∧ m5 ≤ 64) (r6 : (-64) ≤ m6 ∧ m6 ≤ 64) (r7 : (-64) ≤ m7 ∧ m7 ≤ 64) (r8 : (-64) ≤ m8 ∧ m8 ≤ 64) (r9 : (-64) ≤ m9 ∧ m9 ≤ 64) (r10 : (-64) ≤ m10 ∧ m10 ≤ 64) (r11 : (-64) ≤ m11 ∧ m11 ≤ 64) (r12 : (-64) ≤ m12 ∧ m12 ≤ 64) (r13 : (-64) ≤ m13 ∧ m13 ≤ 64) (r14 : (-64) ≤ m14 ∧ m14 ≤ 64) (r15 : (-64) ≤ m15 ∧ m15 ≤ 64) {Q : Value → Prop} (H :
 (∃ v16 : Int, (∀ w, Calls Try.prog 127 #[.agg #[.int .i64 (m0), .int .i64 (m1), .int .i64 (m2), .int .i64 (m3), .int .i64 (m4), .int .i64 (m5), .int .i64 (m6), .int .i64 (m7), .int .i64 (m8), .int .i64 (m9), .int .i64 (m10), .int .i64 (m11), .int .i64 (m12), .int .i64 (m13), .int .i64 (m14), .int .i64 (m15)]] w fun e w' => e = .returned (.int .i64 (v16)) ∧ Below w.heap.size w w') ∧
 ((1 ≤ v16 ∧ v16 ≤ 100) ∧ Q (.tuple #[.bool (false), .int .i64 (v16)])))) :
 ∃ v, Q v ∧ ∀ w, Calls Try.prog 67 #[.agg #[.int .i64 (m0), .int .i64 (m1), .int .i64 (m2), .int .i64 (m3), .int .i64 (m4), .int .i64 (m5), .int .i64 (m6), .int .i64 (m7), .int .i64 (m8), .int .i64 (m9), .int .i64 (m10), .int .i64 (m11), .int .i64 (m12), .int .i64 (m13), .int .i64 (m14), .int .i64 (m15)]] w fun e w' => e = .returned v ∧ Below w.heap.size w w' :=
 tree_at mixed names S1_ok (S := S1 Try.prog) (lf := 100000) (d := 60) (args := [(.agg [(.int .i64 (.var 0)), (.int .i64 (.var 1)), (.int .i64 (.var 2)), (.int .i64 (.var 3)), (.int .i64 (.var 4)), (.int .i64 (.var 5)), (.int .i64 (.var 6)), (.int .i64 (.var 7)), (.int .i64 (.var 8)), (.int .i64 (.var 9)), (.int .i64 (.var 10)), (.int .i64 (.var 11)), (.int .i64 (.var 12)), (.int .i64 (.var 13)), (.int .i64 (.var 14)), (.int .i64 (.var 15))])]) phx_t { ivs := [(0, (-64), 64), (1, (-64), 64), (2, (-64), 64), (3, (-64), 64), (4, (-64), 64), (5, (-64), 64), (6, (-64), 64), (7, (-64), 64), (8, (-64), 64), (9, (-64), 64), (10, (-64), 64), (11, (-64), 64), (12, (-64), 64), (13, (-64), 64), (14, (-64), 64), (15, (-64), 64)], whs := [] } [m0, m1, m2, m3, m4, m5, m6, m7, m8, m9, m10, m11, m12, m13, m14, m15] [] 16 0 rfl rfl (by kernel_rfl) (by kernel_rfl) (by kernel_rfl)
 ⟨(fc r0 (fc r1 (fc r2 (fc r3 (fc r4 (fc r5 (fc r6 (fc r7 (fc r8 (fc r9 (fc r10 (fc r11 (fc r12 (fc r13 (fc r14 (fc r15 fz)))))))))))))))), fz⟩ (Eq.mp (by kernel_rfl) H)
def pdq_t : Tr :=
 (.ite (.icmp .eql (.var 0) (.lit 0))
 (.leaf (.tuple [(.agg [(.int .i64 (.lit 0)), (.int .i64 (.lit 0))]), (.int .i64 (.lit 9))]))
 (.call 145 [(.int .i64 (.bin .addI (.bin .addI (.bin .addI (.bin .addI (.bin .addI (.bin .addI (.bin .addI (.bin .addI (.bin .addI (.bin .addI (.bin .addI (.bin .addI (.bin .addI (.bin .addI (.bin .mulI (.var 1) (.var 1)) (.bin .mulI (.var 2) (.var 2))) (.bin .mulI (.var 3) (.var 3))) (.bin .mulI (.var 4) (.var 4))) (.bin .mulI (.var 5) (.var 5))) (.bin .mulI (.var 6) (.var 6))) (.bin .mulI (.var 7) (.var 7))) (.bin .mulI (.var 8) (.var 8))) (.bin .mulI (.var 9) (.var 9))) (.bin .mulI (.var 10) (.var 10))) (.bin .mulI (.var 11) (.var 11))) (.bin .mulI (.var 12) (.var 12))) (.bin .mulI (.var 13) (.var 13))) (.bin .mulI (.var 14) (.var 14))) (.bin .mulI (.var 15) (.var 15)))), (.int .i64 (.bin .mulI (.lit 3) (.bin .mulI (.var 0) (.var 0))))] (.agg [(.int .i64 (.var 16)), (.int .i64 (.var 17))]) 2 0
 (.ite (.icmp .leq (.lit (-1000000000)) (.var 16))
 (.ite (.icmp .leq (.var 16) (.lit 1000000000))
 (.ite (.icmp .leq (.lit (-1000000000)) (.var 17))
 (.ite (.icmp .leq (.var 17) (.lit 1000000000))
 (.leaf (.tuple [(.agg [(.int .i64 (.var 16)), (.int .i64 (.var 17))]), (.int .i64 (.lit 0))]))
 ppa_q4)
 ppa_q4)
 ppa_q4)
 ppa_q4)))
theorem pdq {m0 m1 m2 m3 m4 m5 m6 m7 m8 m9 m10 m11 m12 m13 m14 m15 : Int} (r0 : (-64) ≤ m0 ∧ m0 ≤ 64) (r1 : (-64) ≤ m1 ∧ m1 ≤ 64) (r2 : (-64) ≤ m2 ∧ m2 ≤ 64) (r3 : (-64) ≤ m3 ∧ m3 ≤ 64) (r4 : (-64) ≤ m4 ∧ m4 ≤ 64) (r5 : (-64) ≤ m5 ∧ m5 ≤ 64) (r6 : (-64) ≤ m6 ∧ m6 ≤ 64) (r7 : (-64) ≤ m7 ∧ m7 ≤ 64) (r8 : (-64) ≤ m8 ∧ m8 ≤ 64) (r9 : (-64) ≤ m9 ∧ m9 ≤ 64) (r10 : (-64) ≤ m10 ∧ m10 ≤ 64) (r11 : (-64) ≤ m11 ∧ m11 ≤ 64) (r12 : (-64) ≤ m12 ∧ m12 ≤ 64) (r13 : (-64) ≤ m13 ∧ m13 ≤ 64) (r14 : (-64) ≤ m14 ∧ m14 ≤ 64) (r15 : (-64) ≤ m15 ∧ m15 ≤ 64) {Q : Value → Prop} (H :
 ((((m0 : Int) == 0) = true → Q (.tuple #[.agg #[.int .i64 (0), .int .i64 (0)], .int .i64 (9)])) ∧
 (((m0 : Int) == 0) = false → (∃ v16 : Int, ∃ v17 : Int, (∀ w, Calls Try.prog 145 #[.int .i64 ((((((((((((((((m1 * m1) + (m2 * m2)) + (m3 * m3)) + (m4 * m4)) + (m5 * m5)) + (m6 * m6)) + (m7 * m7)) + (m8 * m8)) + (m9 * m9)) + (m10 * m10)) + (m11 * m11)) + (m12 * m12)) + (m13 * m13)) + (m14 * m14)) + (m15 * m15))), .int .i64 ((3 * (m0 * m0)))] w fun e w' => e = .returned (.agg #[.int .i64 (v16), .int .i64 (v17)]) ∧ Below w.heap.size w w') ∧
 ((decide (((-1000000000) : Int) ≤ v16) = true → ((decide ((v16 : Int) ≤ 1000000000) = true → ((decide (((-1000000000) : Int) ≤ v17) = true → ((decide ((v17 : Int) ≤ 1000000000) = true → Q (.tuple #[.agg #[.int .i64 (v16), .int .i64 (v17)], .int .i64 (0)])) ∧
 (decide ((v17 : Int) ≤ 1000000000) = false → Q (.tuple #[.agg #[.int .i64 (0), .int .i64 (0)], .int .i64 (8)])))) ∧
 (decide (((-1000000000) : Int) ≤ v17) = false → Q (.tuple #[.agg #[.int .i64 (0), .int .i64 (0)], .int .i64 (8)])))) ∧
 (decide ((v16 : Int) ≤ 1000000000) = false → Q (.tuple #[.agg #[.int .i64 (0), .int .i64 (0)], .int .i64 (8)])))) ∧
 (decide (((-1000000000) : Int) ≤ v16) = false → Q (.tuple #[.agg #[.int .i64 (0), .int .i64 (0)], .int .i64 (8)]))))))) :
 ∃ v, Q v ∧ ∀ w, Calls Try.prog 66 #[.agg #[.int .i64 (m0), .int .i64 (m1), .int .i64 (m2), .int .i64 (m3), .int .i64 (m4), .int .i64 (m5), .int .i64 (m6), .int .i64 (m7), .int .i64 (m8), .int .i64 (m9), .int .i64 (m10), .int .i64 (m11), .int .i64 (m12), .int .i64 (m13), .int .i64 (m14), .int .i64 (m15)]] w fun e w' => e = .returned v ∧ Below w.heap.size w w' :=
 tree_at mixed names S1_ok (S := S1 Try.prog) (lf := 100000) (d := 60) (args := [(.agg [(.int .i64 (.var 0)), (.int .i64 (.var 1)), (.int .i64 (.var 2)), (.int .i64 (.var 3)), (.int .i64 (.var 4)), (.int .i64 (.var 5)), (.int .i64 (.var 6)), (.int .i64 (.var 7)), (.int .i64 (.var 8)), (.int .i64 (.var 9)), (.int .i64 (.var 10)), (.int .i64 (.var 11)), (.int .i64 (.var 12)), (.int .i64 (.var 13)), (.int .i64 (.var 14)), (.int .i64 (.var 15))])]) pdq_t { ivs := [(0, (-64), 64), (1, (-64), 64), (2, (-64), 64), (3, (-64), 64), (4, (-64), 64), (5, (-64), 64), (6, (-64), 64), (7, (-64), 64), (8, (-64), 64), (9, (-64), 64), (10, (-64), 64), (11, (-64), 64), (12, (-64), 64), (13, (-64), 64), (14, (-64), 64), (15, (-64), 64)], whs := [] } [m0, m1, m2, m3, m4, m5, m6, m7, m8, m9, m10, m11, m12, m13, m14, m15] [] 16 0 rfl rfl (by kernel_rfl) (by kernel_rfl) (by kernel_rfl)
 ⟨(fc r0 (fc r1 (fc r2 (fc r3 (fc r4 (fc r5 (fc r6 (fc r7 (fc r8 (fc r9 (fc r10 (fc r11 (fc r12 (fc r13 (fc r14 (fc r15 fz)))))))))))))))), fz⟩ (Eq.mp (by kernel_rfl) H)
def pze_t : Tr :=
 (.call 20 [] (.bool (.lit true)) 0 0
 (.leaf (.bool (.lit true))))
theorem pze {x0 x1 x2 x3 x4 x5 x6 x7 : Int} (r0 : 0 ≤ x0 ∧ x0 ≤ 0) (r1 : 0 ≤ x1 ∧ x1 ≤ 0) (r2 : 0 ≤ x2 ∧ x2 ≤ 0) (r3 : 0 ≤ x3 ∧ x3 ≤ 0) (r4 : 0 ≤ x4 ∧ x4 ≤ 0) (r5 : 0 ≤ x5 ∧ x5 ≤ 0) (r6 : 0 ≤ x6 ∧ x6 ≤ 0) (r7 : 0 ≤ x7 ∧ x7 ≤ 0) {Q : Value → Prop} (H :
 ((∀ w, Calls Try.prog 20 #[] w fun e w' => e = .returned (.bool (true)) ∧ Below w.heap.size w w') ∧
 Q (.bool (true)))) :
 ∃ v, Q v ∧ ∀ w, Calls Try.prog 11 #[.agg #[.int .i64 (x0), .int .i64 (x1), .int .i64 (x2), .int .i64 (x3), .int .i64 (x4), .int .i64 (x5), .int .i64 (x6), .int .i64 (x7)]] w fun e w' => e = .returned v ∧ Below w.heap.size w w' :=
 tree_at mixed names S1_ok (S := S1 Try.prog) (lf := 100000) (d := 60) (args := [(.agg [(.int .i64 (.var 0)), (.int .i64 (.var 1)), (.int .i64 (.var 2)), (.int .i64 (.var 3)), (.int .i64 (.var 4)), (.int .i64 (.var 5)), (.int .i64 (.var 6)), (.int .i64 (.var 7))])]) pze_t { ivs := [(0, 0, 0), (1, 0, 0), (2, 0, 0), (3, 0, 0), (4, 0, 0), (5, 0, 0), (6, 0, 0), (7, 0, 0)], whs := [] } [x0, x1, x2, x3, x4, x5, x6, x7] [] 8 0 rfl rfl (by kernel_rfl) (by kernel_rfl) (by kernel_rfl)
 ⟨(fc r0 (fc r1 (fc r2 (fc r3 (fc r4 (fc r5 (fc r6 (fc r7 fz)))))))), fz⟩ (Eq.mp (by kernel_rfl) H)
def pmg_t : Tr :=
 (.leaf (.tuple [(.agg [(.int .i64 (.bin .addI ppa_q13 (.bin .addI ppa_q15 (.bin .subI (.bin .mulI (.var 14) (.var 14)) (.bin .mulI (.var 15) (.bin .subI (.lit 0) (.var 15))))))), (.int .i64 (.bin .addI ppa_q12 (.bin .addI ppa_q15 (.bin .subI (.bin .mulI (.var 14) (.bin .mulI (.lit (-1)) (.var 14))) (.bin .mulI (.var 15) ppa_q1))))), (.int .i64 (.bin .addI ppa_q6 (.bin .addI (.bin .subI (.bin .mulI (.var 10) (.var 14)) (.bin .mulI (.var 11) (.bin .subI (.lit 0) (.var 15)))) (.bin .subI (.bin .mulI (.var 14) (.var 10)) (.bin .mulI (.var 15) (.bin .subI (.lit 0) (.var 11))))))), (.int .i64 (.bin .addI ppa_q5 (.bin .addI (.bin .subI (.bin .mulI (.var 10) (.bin .subI (.lit 0) ppa_q1)) (.bin .mulI (.var 11) (.bin .mulI (.lit (-1)) (.var 14)))) (.bin .subI (.bin .mulI (.var 14) ppa_q10) (.bin .mulI (.var 15) (.var 10)))))), (.int .i64 (.bin .addI ppa_q13 (.bin .addI ppa_q9 (.bin .subI (.bin .mulI (.bin .mulI (.lit (-1)) (.var 14)) (.var 14)) (.bin .mulI (.bin .mulI (.lit (-1)) (.var 15)) (.bin .subI (.lit 0) (.var 15))))))), (.int .i64 (.bin .addI ppa_q12 (.bin .addI ppa_q9 (.bin .subI (.bin .mulI (.bin .mulI (.lit (-1)) (.var 14)) (.bin .mulI (.lit (-1)) (.var 14))) (.bin .mulI (.bin .mulI (.lit (-1)) (.var 15)) ppa_q1))))), (.int .i64 (.bin .addI ppa_q6 (.bin .addI (.bin .subI (.bin .mulI (.bin .mulI (.lit (-1)) (.var 10)) (.var 14)) (.bin .mulI (.bin .mulI (.lit (-1)) (.var 11)) (.bin .subI (.lit 0) (.var 15)))) (.bin .subI (.bin .mulI (.bin .mulI (.lit (-1)) (.var 14)) (.var 10)) (.bin .mulI (.bin .mulI (.lit (-1)) (.var 15)) (.bin .subI (.lit 0) (.var 11))))))), (.int .i64 (.bin .addI ppa_q5 (.bin .addI (.bin .subI (.bin .mulI (.bin .mulI (.lit (-1)) (.var 10)) (.bin .subI (.lit 0) ppa_q1)) (.bin .mulI (.bin .mulI (.lit (-1)) (.var 11)) (.bin .mulI (.lit (-1)) (.var 14)))) (.bin .subI (.bin .mulI (.bin .mulI (.lit (-1)) (.var 14)) ppa_q10) (.bin .mulI (.bin .mulI (.lit (-1)) (.var 15)) (.var 10)))))), (.int .i64 (.bin .addI (.bin .addI ppa_q16 (.bin .subI (.bin .mulI (.var 14) (.var 6)) (.bin .mulI (.var 15) (.bin .subI (.lit 0) (.var 7))))) (.bin .addI ppa_q17 (.bin .subI (.bin .mulI (.var 6) (.var 14)) (.bin .mulI (.var 7) (.bin .subI (.lit 0) (.var 15))))))), (.int .i64 (.bin .addI (.bin .addI ppa_q16 (.bin .subI (.bin .mulI (.var 14) (.bin .mulI (.lit (-1)) (.var 6))) (.bin .mulI (.var 15) ppa_q2))) (.bin .addI ppa_q17 (.bin .subI (.bin .mulI (.var 6) (.bin .mulI (.lit (-1)) (.var 14))) (.bin .mulI (.var 7) ppa_q1))))), (.int .i64 (.bin .addI (.bin .addI (.bin .subI (.bin .mulI (.var 10) (.var 6)) (.bin .mulI (.var 11) (.bin .subI (.lit 0) (.var 7)))) (.bin .subI (.bin .mulI (.var 14) (.var 2)) (.bin .mulI (.var 15) (.bin .subI (.lit 0) (.var 3))))) (.bin .addI (.bin .subI (.bin .mulI (.var 2) (.var 14)) (.bin .mulI (.var 3) (.bin .subI (.lit 0) (.var 15)))) (.bin .subI (.bin .mulI (.var 6) (.var 10)) (.bin .mulI (.var 7) (.bin .subI (.lit 0) (.var 11))))))), (.int .i64 (.bin .addI (.bin .addI (.bin .subI (.bin .mulI (.var 10) (.bin .subI (.lit 0) ppa_q2)) (.bin .mulI (.var 11) (.bin .mulI (.lit (-1)) (.var 6)))) (.bin .subI (.bin .mulI (.var 14) (.bin .subI (.lit 0) (.bin .subI (.lit 0) (.var 3)))) (.bin .mulI (.var 15) (.var 2)))) (.bin .addI (.bin .subI (.bin .mulI (.var 2) (.bin .subI (.lit 0) ppa_q1)) (.bin .mulI (.var 3) (.bin .mulI (.lit (-1)) (.var 14)))) (.bin .subI (.bin .mulI (.var 6) ppa_q10) (.bin .mulI (.var 7) (.var 10)))))), (.int .i64 (.bin .addI (.bin .addI ppa_q7 (.bin .subI (.bin .mulI ppa_q8 (.var 6)) (.bin .mulI (.bin .mulI (.lit (-1)) (.var 14)) (.bin .subI (.lit 0) (.var 7))))) (.bin .addI ppa_q11 (.bin .subI (.bin .mulI (.bin .subI (.lit 0) (.var 7)) (.var 14)) (.bin .mulI (.var 6) (.bin .subI (.lit 0) (.var 15))))))), (.int .i64 (.bin .addI (.bin .addI ppa_q7 (.bin .subI (.bin .mulI ppa_q8 (.bin .mulI (.lit (-1)) (.var 6))) (.bin .mulI (.bin .mulI (.lit (-1)) (.var 14)) ppa_q2))) (.bin .addI ppa_q11 (.bin .subI (.bin .mulI (.bin .subI (.lit 0) (.var 7)) (.bin .mulI (.lit (-1)) (.var 14))) (.bin .mulI (.var 6) ppa_q1))))), (.int .i64 (.bin .addI (.bin .addI (.bin .subI (.bin .mulI ppa_q14 (.var 6)) (.bin .mulI (.bin .mulI (.lit (-1)) (.var 10)) (.bin .subI (.lit 0) (.var 7)))) (.bin .subI (.bin .mulI ppa_q8 (.var 2)) (.bin .mulI (.bin .mulI (.lit (-1)) (.var 14)) (.bin .subI (.lit 0) (.var 3))))) (.bin .addI (.bin .subI (.bin .mulI (.bin .subI (.lit 0) (.var 3)) (.var 14)) (.bin .mulI (.var 2) (.bin .subI (.lit 0) (.var 15)))) (.bin .subI (.bin .mulI (.bin .subI (.lit 0) (.var 7)) (.var 10)) (.bin .mulI (.var 6) (.bin .subI (.lit 0) (.var 11))))))), (.int .i64 (.bin .addI (.bin .addI (.bin .subI (.bin .mulI ppa_q14 (.bin .subI (.lit 0) ppa_q2)) (.bin .mulI (.bin .mulI (.lit (-1)) (.var 10)) (.bin .mulI (.lit (-1)) (.var 6)))) (.bin .subI (.bin .mulI ppa_q8 (.bin .subI (.lit 0) (.bin .subI (.lit 0) (.var 3)))) (.bin .mulI (.bin .mulI (.lit (-1)) (.var 14)) (.var 2)))) (.bin .addI (.bin .subI (.bin .mulI (.bin .subI (.lit 0) (.var 3)) (.bin .subI (.lit 0) ppa_q1)) (.bin .mulI (.var 2) (.bin .mulI (.lit (-1)) (.var 14)))) (.bin .subI (.bin .mulI (.bin .subI (.lit 0) (.var 7)) ppa_q10) (.bin .mulI (.var 6) (.var 10))))))]), (.int .i64 (.lit 0))]))
theorem pmg {a0 a1 b0 b1 c0 c1 d0 d1 : Nat} {A0 A1 B0 B1 C0 C1 D0 D1 : Int} (r2 : (-2) ≤ A0 ∧ A0 ≤ 2) (r3 : (-2) ≤ A1 ∧ A1 ≤ 2) (r6 : (-2) ≤ B0 ∧ B0 ≤ 2) (r7 : (-2) ≤ B1 ∧ B1 ≤ 2) (r10 : (-2) ≤ C0 ∧ C0 ≤ 2) (r11 : (-2) ≤ C1 ∧ C1 ≤ 2) (r14 : (-2) ≤ D0 ∧ D0 ≤ 2) (r15 : (-2) ≤ D1 ∧ D1 ≤ 2) (h0 : Rp a0 A0) (h1 : Rp a1 A1) (h4 : Rp b0 B0) (h5 : Rp b1 B1) (h8 : Rp c0 C0) (h9 : Rp c1 C1) (h12 : Rp d0 D0) (h13 : Rp d1 D1) {Q : Value → Prop} (H :
 Q (.tuple #[.agg #[.int .i64 (((((A0 * A0) - (A1 * (0 - A1))) + ((B0 * B0) - (B1 * (0 - B1)))) + (((C0 * C0) - (C1 * (0 - C1))) + ((D0 * D0) - (D1 * (0 - D1)))))), .int .i64 (((((A0 * A0) - (A1 * (0 - A1))) + ((B0 * ((-1) * B0)) - (B1 * ((-1) * (0 - B1))))) + (((C0 * C0) - (C1 * (0 - C1))) + ((D0 * ((-1) * D0)) - (D1 * ((-1) * (0 - D1))))))), .int .i64 (((((A0 * B0) - (A1 * (0 - B1))) + ((B0 * A0) - (B1 * (0 - A1)))) + (((C0 * D0) - (C1 * (0 - D1))) + ((D0 * C0) - (D1 * (0 - C1)))))), .int .i64 (((((A0 * (0 - ((-1) * (0 - B1)))) - (A1 * ((-1) * B0))) + ((B0 * (0 - (0 - A1))) - (B1 * A0))) + (((C0 * (0 - ((-1) * (0 - D1)))) - (C1 * ((-1) * D0))) + ((D0 * (0 - (0 - C1))) - (D1 * C0))))), .int .i64 (((((A0 * A0) - (A1 * (0 - A1))) + ((B0 * B0) - (B1 * (0 - B1)))) + (((((-1) * C0) * C0) - (((-1) * C1) * (0 - C1))) + ((((-1) * D0) * D0) - (((-1) * D1) * (0 - D1)))))), .int .i64 (((((A0 * A0) - (A1 * (0 - A1))) + ((B0 * ((-1) * B0)) - (B1 * ((-1) * (0 - B1))))) + (((((-1) * C0) * C0) - (((-1) * C1) * (0 - C1))) + ((((-1) * D0) * ((-1) * D0)) - (((-1) * D1) * ((-1) * (0 - D1))))))), .int .i64 (((((A0 * B0) - (A1 * (0 - B1))) + ((B0 * A0) - (B1 * (0 - A1)))) + (((((-1) * C0) * D0) - (((-1) * C1) * (0 - D1))) + ((((-1) * D0) * C0) - (((-1) * D1) * (0 - C1)))))), .int .i64 (((((A0 * (0 - ((-1) * (0 - B1)))) - (A1 * ((-1) * B0))) + ((B0 * (0 - (0 - A1))) - (B1 * A0))) + (((((-1) * C0) * (0 - ((-1) * (0 - D1)))) - (((-1) * C1) * ((-1) * D0))) + ((((-1) * D0) * (0 - (0 - C1))) - (((-1) * D1) * C0))))), .int .i64 (((((C0 * A0) - (C1 * (0 - A1))) + ((D0 * B0) - (D1 * (0 - B1)))) + (((A0 * C0) - (A1 * (0 - C1))) + ((B0 * D0) - (B1 * (0 - D1)))))), .int .i64 (((((C0 * A0) - (C1 * (0 - A1))) + ((D0 * ((-1) * B0)) - (D1 * ((-1) * (0 - B1))))) + (((A0 * C0) - (A1 * (0 - C1))) + ((B0 * ((-1) * D0)) - (B1 * ((-1) * (0 - D1))))))), .int .i64 (((((C0 * B0) - (C1 * (0 - B1))) + ((D0 * A0) - (D1 * (0 - A1)))) + (((A0 * D0) - (A1 * (0 - D1))) + ((B0 * C0) - (B1 * (0 - C1)))))), .int .i64 (((((C0 * (0 - ((-1) * (0 - B1)))) - (C1 * ((-1) * B0))) + ((D0 * (0 - (0 - A1))) - (D1 * A0))) + (((A0 * (0 - ((-1) * (0 - D1)))) - (A1 * ((-1) * D0))) + ((B0 * (0 - (0 - C1))) - (B1 * C0))))), .int .i64 ((((((0 - ((-1) * C1)) * A0) - (((-1) * C0) * (0 - A1))) + (((0 - ((-1) * D1)) * B0) - (((-1) * D0) * (0 - B1)))) + ((((0 - A1) * C0) - (A0 * (0 - C1))) + (((0 - B1) * D0) - (B0 * (0 - D1)))))), .int .i64 ((((((0 - ((-1) * C1)) * A0) - (((-1) * C0) * (0 - A1))) + (((0 - ((-1) * D1)) * ((-1) * B0)) - (((-1) * D0) * ((-1) * (0 - B1))))) + ((((0 - A1) * C0) - (A0 * (0 - C1))) + (((0 - B1) * ((-1) * D0)) - (B0 * ((-1) * (0 - D1))))))), .int .i64 ((((((0 - ((-1) * C1)) * B0) - (((-1) * C0) * (0 - B1))) + (((0 - ((-1) * D1)) * A0) - (((-1) * D0) * (0 - A1)))) + ((((0 - A1) * D0) - (A0 * (0 - D1))) + (((0 - B1) * C0) - (B0 * (0 - C1)))))), .int .i64 ((((((0 - ((-1) * C1)) * (0 - ((-1) * (0 - B1)))) - (((-1) * C0) * ((-1) * B0))) + (((0 - ((-1) * D1)) * (0 - (0 - A1))) - (((-1) * D0) * A0))) + ((((0 - A1) * (0 - ((-1) * (0 - D1)))) - (A0 * ((-1) * D0))) + (((0 - B1) * (0 - (0 - C1))) - (B0 * C0)))))], .int .i64 (0)])) :
 ∃ v, Q v ∧ ∀ w, Calls Try.prog 53 #[.agg #[.complex .f64 a0 a1, .complex .f64 b0 b1, .complex .f64 c0 c1, .complex .f64 d0 d1]] w fun e w' => e = .returned v ∧ Below w.heap.size w w' :=
 tree_at mixed names S1_ok (S := S1 Try.prog) (lf := 100000) (d := 60) (args := [(.agg [(.complex .f64 (.var 0) (.var 1)), (.complex .f64 (.var 4) (.var 5)), (.complex .f64 (.var 8) (.var 9)), (.complex .f64 (.var 12) (.var 13))])]) pmg_t { ivs := [(2, (-2), 2), (3, (-2), 2), (6, (-2), 2), (7, (-2), 2), (10, (-2), 2), (11, (-2), 2), (14, (-2), 2), (15, (-2), 2)], whs := [(0, (.var 2), 2), (1, (.var 3), 2), (4, (.var 6), 2), (5, (.var 7), 2), (8, (.var 10), 2), (9, (.var 11), 2), (12, (.var 14), 2), (13, (.var 15), 2)] } [(a0 : Int), (a1 : Int), A0, A1, (b0 : Int), (b1 : Int), B0, B1, (c0 : Int), (c1 : Int), C0, C1, (d0 : Int), (d1 : Int), D0, D1] [] 16 0 rfl rfl (by kernel_rfl) (by kernel_rfl) (by kernel_rfl)
 ⟨(fc r2 (fc r3 (fc r6 (fc r7 (fc r10 (fc r11 (fc r14 (fc r15 fz)))))))), (fc ⟨h0, wh_rng r2, by decide⟩ (fc ⟨h1, wh_rng r3, by decide⟩ (fc ⟨h4, wh_rng r6, by decide⟩ (fc ⟨h5, wh_rng r7, by decide⟩ (fc ⟨h8, wh_rng r10, by decide⟩ (fc ⟨h9, wh_rng r11, by decide⟩ (fc ⟨h12, wh_rng r14, by decide⟩ (fc ⟨h13, wh_rng r15, by decide⟩ fz))))))))⟩ (Eq.mp (by kernel_rfl) H)
end Go.Proofs.Ytipcoahafdolcaa.Ev
