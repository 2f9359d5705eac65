/- GlassMixes: what the functions do, by the symbolic machine. -/
import Derived.Test.YtpgojkoldhpbkaaEvx
namespace Go.Proofs.Ytpgojkoldhpbkaa.Ev
set_option linter.unusedSimpArgs false
open Go Go.RowKit
set_option maxRecDepth 100000
def rs_ltG (P : Program) : Facts := {
  exts := extL P,
  eqs := [((.bin .minI (.var 0) (.var 1)), (.var 3)), ((.bin .maxI (.var 0) (.var 1)), (.var 4)), ((.bin (.mulW .i64) (.var 2) (.var 2)), (.var 5)), ((.bin (.mulW .i64) (.var 1) (.var 1)), (.var 6)), ((.bin (.subW .i64) (.var 5) (.var 6)), (.var 7)), ((.bin (.mulW .i64) (.lit 10000) (.var 7)), (.var 8)), ((.bin (.mulW .i64) (.var 0) (.var 0)), (.var 9)), ((.bin (.subW .i64) (.var 9) (.var 6)), (.var 10)), ((.bin (.subW .i64) (.lit 0) (.var 8)), (.var 11)), ((.bin (.subW .i64) (.lit 0) (.var 10)), (.var 12))],
  bits := [((.icmp .eql (.var 0) (.var 1)), false), ((.icmp .lss (.var 10) (.lit 0)), true)],
  fl := [],
  f2i := [],
  calls := [((14, [(.int .i64 (.var 0)), (.int .i64 (.lit 5000)), (.int .i64 (.lit 80000))]), (.bool (.lit true))), ((14, [(.int .i64 (.var 1)), (.int .i64 (.lit 5000)), (.int .i64 (.lit 80000))]), (.bool (.lit true))), ((14, [(.int .i64 (.var 2)), (.int .i64 (.lit 5000)), (.int .i64 (.lit 80000))]), (.bool (.lit true))), ((14, [(.int .i64 (.var 2)), (.int .i64 (.var 3)), (.int .i64 (.var 4))]), (.bool (.lit true))), ((56, [(.int .i64 (.var 11)), (.int .i64 (.var 12))]), (.int .i64 (.var 13))), ((57, [(.int .i64 (.var 11)), (.int .i64 (.var 12))]), (.int .i64 (.var 14)))] }
theorem rs_lt {a b x v3 v4 v5 v6 v7 v8 v9 v10 v11 v12 v13 v14 : Int}
    (e0 : (if (b : Int) < a then b else a) = v3)
    (e1 : (if (b : Int) > a then b else a) = v4)
    (e2 : IntKind.i64.wrap (x * x) = v5)
    (e3 : IntKind.i64.wrap (b * b) = v6)
    (e4 : IntKind.i64.wrap (v5 - v6) = v7)
    (e5 : IntKind.i64.wrap (10000 * v7) = v8)
    (e6 : IntKind.i64.wrap (a * a) = v9)
    (e7 : IntKind.i64.wrap (v9 - v6) = v10)
    (e8 : IntKind.i64.wrap (0 - v8) = v11)
    (e9 : IntKind.i64.wrap (0 - v10) = v12)
    (t0 : ((a : Int) == b) = false)
    (t1 : decide ((v10 : Int) < 0) = true)
    (c0 : ∀ w, Calls Try.prog 14 #[.int .i64 a, .int .i64 5000, .int .i64 80000] w fun e w' => e = .returned (.bool (true)) ∧ Below w.heap.size w w')
    (c1 : ∀ w, Calls Try.prog 14 #[.int .i64 b, .int .i64 5000, .int .i64 80000] w fun e w' => e = .returned (.bool (true)) ∧ Below w.heap.size w w')
    (c2 : ∀ w, Calls Try.prog 14 #[.int .i64 x, .int .i64 5000, .int .i64 80000] w fun e w' => e = .returned (.bool (true)) ∧ Below w.heap.size w w')
    (c3 : ∀ w, Calls Try.prog 14 #[.int .i64 x, .int .i64 v3, .int .i64 v4] w fun e w' => e = .returned (.bool (true)) ∧ Below w.heap.size w w')
    (c4 : ∀ w, Calls Try.prog 56 #[.int .i64 v11, .int .i64 v12] w fun e w' => e = .returned (.int .i64 v13) ∧ Below w.heap.size w w')
    (c5 : ∀ w, Calls Try.prog 57 #[.int .i64 v11, .int .i64 v12] w fun e w' => e = .returned (.int .i64 v14) ∧ Below w.heap.size w w') (w : World) :
    Calls Try.prog 19 #[.int .i64 a, .int .i64 b, .int .i64 x] w (fun e w' => e = .returned (.tuple #[.agg #[.int .i64 v13, .int .i64 v14], .int .i64 0]) ∧ Below w.heap.size w w') :=
  calls_of_ev mixed names (ρ := ⟨fun i => [a, b, x, v3, v4, v5, v6, v7, v8, v9, v10, v11, v12, v13, v14].getD i 0, fun _ => false, fun _ => .empty, fun _ => .nilFunc⟩) (Γ := rs_ltG Try.prog)
    ⟨(fc e0 (fc e1 (fc e2 (fc e3 (fc e4 (fc e5 (fc e6 (fc e7 (fc e8 (fc e9 fz)))))))))), (fc t0 (fc t1 fz)), fz, fz, (fc c0 (fc c1 (fc c2 (fc c3 (fc c4 (fc c5 fz)))))), fz, extL_ok⟩ (lf := 100000) (d := 60) (args := [(.int .i64 (.var 0)), (.int .i64 (.var 1)), (.int .i64 (.var 2))]) (v := (.tuple [(.agg [(.int .i64 (.var 13)), (.int .i64 (.var 14))]), (.int .i64 (.lit 0))])) (H' := []) (by kernel_rfl) rfl rfl (by kernel_rfl) w
def rs_gtG (P : Program) : Facts := {
  exts := extL P,
  eqs := [((.bin .minI (.var 0) (.var 1)), (.var 3)), ((.bin .maxI (.var 0) (.var 1)), (.var 4)), ((.bin (.mulW .i64) (.var 2) (.var 2)), (.var 5)), ((.bin (.mulW .i64) (.var 1) (.var 1)), (.var 6)), ((.bin (.subW .i64) (.var 5) (.var 6)), (.var 7)), ((.bin (.mulW .i64) (.lit 10000) (.var 7)), (.var 8)), ((.bin (.mulW .i64) (.var 0) (.var 0)), (.var 9)), ((.bin (.subW .i64) (.var 9) (.var 6)), (.var 10))],
  bits := [((.icmp .eql (.var 0) (.var 1)), false), ((.icmp .lss (.var 10) (.lit 0)), false)],
  fl := [],
  f2i := [],
  calls := [((14, [(.int .i64 (.var 0)), (.int .i64 (.lit 5000)), (.int .i64 (.lit 80000))]), (.bool (.lit true))), ((14, [(.int .i64 (.var 1)), (.int .i64 (.lit 5000)), (.int .i64 (.lit 80000))]), (.bool (.lit true))), ((14, [(.int .i64 (.var 2)), (.int .i64 (.lit 5000)), (.int .i64 (.lit 80000))]), (.bool (.lit true))), ((14, [(.int .i64 (.var 2)), (.int .i64 (.var 3)), (.int .i64 (.var 4))]), (.bool (.lit true))), ((56, [(.int .i64 (.var 8)), (.int .i64 (.var 10))]), (.int .i64 (.var 11))), ((57, [(.int .i64 (.var 8)), (.int .i64 (.var 10))]), (.int .i64 (.var 12)))] }
theorem rs_gt {a b x v3 v4 v5 v6 v7 v8 v9 v10 v11 v12 : Int}
    (e0 : (if (b : Int) < a then b else a) = v3)
    (e1 : (if (b : Int) > a then b else a) = v4)
    (e2 : IntKind.i64.wrap (x * x) = v5)
    (e3 : IntKind.i64.wrap (b * b) = v6)
    (e4 : IntKind.i64.wrap (v5 - v6) = v7)
    (e5 : IntKind.i64.wrap (10000 * v7) = v8)
    (e6 : IntKind.i64.wrap (a * a) = v9)
    (e7 : IntKind.i64.wrap (v9 - v6) = v10)
    (t0 : ((a : Int) == b) = false)
    (t1 : decide ((v10 : Int) < 0) = false)
    (c0 : ∀ w, Calls Try.prog 14 #[.int .i64 a, .int .i64 5000, .int .i64 80000] w fun e w' => e = .returned (.bool (true)) ∧ Below w.heap.size w w')
    (c1 : ∀ w, Calls Try.prog 14 #[.int .i64 b, .int .i64 5000, .int .i64 80000] w fun e w' => e = .returned (.bool (true)) ∧ Below w.heap.size w w')
    (c2 : ∀ w, Calls Try.prog 14 #[.int .i64 x, .int .i64 5000, .int .i64 80000] w fun e w' => e = .returned (.bool (true)) ∧ Below w.heap.size w w')
    (c3 : ∀ w, Calls Try.prog 14 #[.int .i64 x, .int .i64 v3, .int .i64 v4] w fun e w' => e = .returned (.bool (true)) ∧ Below w.heap.size w w')
    (c4 : ∀ w, Calls Try.prog 56 #[.int .i64 v8, .int .i64 v10] w fun e w' => e = .returned (.int .i64 v11) ∧ Below w.heap.size w w')
    (c5 : ∀ w, Calls Try.prog 57 #[.int .i64 v8, .int .i64 v10] w fun e w' => e = .returned (.int .i64 v12) ∧ Below w.heap.size w w') (w : World) :
    Calls Try.prog 19 #[.int .i64 a, .int .i64 b, .int .i64 x] w (fun e w' => e = .returned (.tuple #[.agg #[.int .i64 v11, .int .i64 v12], .int .i64 0]) ∧ Below w.heap.size w w') :=
  calls_of_ev mixed names (ρ := ⟨fun i => [a, b, x, v3, v4, v5, v6, v7, v8, v9, v10, v11, v12].getD i 0, fun _ => false, fun _ => .empty, fun _ => .nilFunc⟩) (Γ := rs_gtG Try.prog)
    ⟨(fc e0 (fc e1 (fc e2 (fc e3 (fc e4 (fc e5 (fc e6 (fc e7 fz)))))))), (fc t0 (fc t1 fz)), fz, fz, (fc c0 (fc c1 (fc c2 (fc c3 (fc c4 (fc c5 fz)))))), fz, extL_ok⟩ (lf := 100000) (d := 60) (args := [(.int .i64 (.var 0)), (.int .i64 (.var 1)), (.int .i64 (.var 2))]) (v := (.tuple [(.agg [(.int .i64 (.var 11)), (.int .i64 (.var 12))]), (.int .i64 (.lit 0))])) (H' := []) (by kernel_rfl) rfl rfl (by kernel_rfl) w
def rs_zeroG (P : Program) : Facts := {
  exts := extL P,
  eqs := [],
  bits := [((.icmp .eql (.var 0) (.var 1)), true)],
  fl := [],
  f2i := [],
  calls := [((14, [(.int .i64 (.var 0)), (.int .i64 (.lit 5000)), (.int .i64 (.lit 80000))]), (.bool (.lit true))), ((14, [(.int .i64 (.var 1)), (.int .i64 (.lit 5000)), (.int .i64 (.lit 80000))]), (.bool (.lit true))), ((14, [(.int .i64 (.var 2)), (.int .i64 (.lit 5000)), (.int .i64 (.lit 80000))]), (.bool (.lit true)))] }
theorem rs_zero {a b x : Int}
    (t0 : ((a : Int) == b) = true)
    (c0 : ∀ w, Calls Try.prog 14 #[.int .i64 a, .int .i64 5000, .int .i64 80000] w fun e w' => e = .returned (.bool (true)) ∧ Below w.heap.size w w')
    (c1 : ∀ w, Calls Try.prog 14 #[.int .i64 b, .int .i64 5000, .int .i64 80000] w fun e w' => e = .returned (.bool (true)) ∧ Below w.heap.size w w')
    (c2 : ∀ w, Calls Try.prog 14 #[.int .i64 x, .int .i64 5000, .int .i64 80000] w fun e w' => e = .returned (.bool (true)) ∧ Below w.heap.size w w') (w : World) :
    Calls Try.prog 19 #[.int .i64 a, .int .i64 b, .int .i64 x] w (fun e w' => e = .returned (.tuple #[.agg #[.int .i64 0, .int .i64 0], .int .i64 9]) ∧ Below w.heap.size w w') :=
  calls_of_ev mixed names (ρ := ⟨fun i => [a, b, x].getD i 0, fun _ => false, fun _ => .empty, fun _ => .nilFunc⟩) (Γ := rs_zeroG Try.prog)
    ⟨fz, (fc t0 fz), fz, fz, (fc c0 (fc c1 (fc c2 fz))), fz, extL_ok⟩ (lf := 100000) (d := 60) (args := [(.int .i64 (.var 0)), (.int .i64 (.var 1)), (.int .i64 (.var 2))]) (v := (.tuple [(.agg [(.int .i64 (.lit 0)), (.int .i64 (.lit 0))]), (.int .i64 (.lit 9))])) (H' := []) (by kernel_rfl) rfl rfl (by kernel_rfl) w
def rs_brkG (P : Program) : Facts := {
  exts := extL P,
  eqs := [((.bin .minI (.var 0) (.var 1)), (.var 3)), ((.bin .maxI (.var 0) (.var 1)), (.var 4))],
  bits := [((.icmp .eql (.var 0) (.var 1)), false)],
  fl := [],
  f2i := [],
  calls := [((14, [(.int .i64 (.var 0)), (.int .i64 (.lit 5000)), (.int .i64 (.lit 80000))]), (.bool (.lit true))), ((14, [(.int .i64 (.var 1)), (.int .i64 (.lit 5000)), (.int .i64 (.lit 80000))]), (.bool (.lit true))), ((14, [(.int .i64 (.var 2)), (.int .i64 (.lit 5000)), (.int .i64 (.lit 80000))]), (.bool (.lit true))), ((14, [(.int .i64 (.var 2)), (.int .i64 (.var 3)), (.int .i64 (.var 4))]), (.bool (.lit false)))] }
theorem rs_brk {a b x v3 v4 : Int}
    (e0 : (if (b : Int) < a then b else a) = v3)
    (e1 : (if (b : Int) > a then b else a) = v4)
    (t0 : ((a : Int) == b) = false)
    (c0 : ∀ w, Calls Try.prog 14 #[.int .i64 a, .int .i64 5000, .int .i64 80000] w fun e w' => e = .returned (.bool (true)) ∧ Below w.heap.size w w')
    (c1 : ∀ w, Calls Try.prog 14 #[.int .i64 b, .int .i64 5000, .int .i64 80000] w fun e w' => e = .returned (.bool (true)) ∧ Below w.heap.size w w')
    (c2 : ∀ w, Calls Try.prog 14 #[.int .i64 x, .int .i64 5000, .int .i64 80000] w fun e w' => e = .returned (.bool (true)) ∧ Below w.heap.size w w')
    (c3 : ∀ w, Calls Try.prog 14 #[.int .i64 x, .int .i64 v3, .int .i64 v4] w fun e w' => e = .returned (.bool (false)) ∧ Below w.heap.size w w') (w : World) :
    Calls Try.prog 19 #[.int .i64 a, .int .i64 b, .int .i64 x] w (fun e w' => e = .returned (.tuple #[.agg #[.int .i64 0, .int .i64 0], .int .i64 24]) ∧ Below w.heap.size w w') :=
  calls_of_ev mixed names (ρ := ⟨fun i => [a, b, x, v3, v4].getD i 0, fun _ => false, fun _ => .empty, fun _ => .nilFunc⟩) (Γ := rs_brkG Try.prog)
    ⟨(fc e0 (fc e1 fz)), (fc t0 fz), fz, fz, (fc c0 (fc c1 (fc c2 (fc c3 fz)))), fz, extL_ok⟩ (lf := 100000) (d := 60) (args := [(.int .i64 (.var 0)), (.int .i64 (.var 1)), (.int .i64 (.var 2))]) (v := (.tuple [(.agg [(.int .i64 (.lit 0)), (.int .i64 (.lit 0))]), (.int .i64 (.lit 24))])) (H' := []) (by kernel_rfl) rfl rfl (by kernel_rfl) w
def rs_e1G (P : Program) : Facts := {
  exts := extL P,
  eqs := [],
  bits := [],
  fl := [],
  f2i := [],
  calls := [((14, [(.int .i64 (.var 0)), (.int .i64 (.lit 5000)), (.int .i64 (.lit 80000))]), (.bool (.lit false)))] }
theorem rs_e1 {a b x : Int}
    (c0 : ∀ w, Calls Try.prog 14 #[.int .i64 a, .int .i64 5000, .int .i64 80000] w fun e w' => e = .returned (.bool (false)) ∧ Below w.heap.size w w') (w : World) :
    Calls Try.prog 19 #[.int .i64 a, .int .i64 b, .int .i64 x] w (fun e w' => e = .returned (.tuple #[.agg #[.int .i64 0, .int .i64 0], .int .i64 2]) ∧ Below w.heap.size w w') :=
  calls_of_ev mixed names (ρ := ⟨fun i => [a, b, x].getD i 0, fun _ => false, fun _ => .empty, fun _ => .nilFunc⟩) (Γ := rs_e1G Try.prog)
    ⟨fz, fz, fz, fz, (fc c0 fz), fz, extL_ok⟩ (lf := 100000) (d := 60) (args := [(.int .i64 (.var 0)), (.int .i64 (.var 1)), (.int .i64 (.var 2))]) (v := (.tuple [(.agg [(.int .i64 (.lit 0)), (.int .i64 (.lit 0))]), (.int .i64 (.lit 2))])) (H' := []) (by kernel_rfl) rfl rfl (by kernel_rfl) w
def rs_e2G (P : Program) : Facts := {
  exts := extL P,
  eqs := [],
  bits := [],
  fl := [],
  f2i := [],
  calls := [((14, [(.int .i64 (.var 0)), (.int .i64 (.lit 5000)), (.int .i64 (.lit 80000))]), (.bool (.lit true))), ((14, [(.int .i64 (.var 1)), (.int .i64 (.lit 5000)), (.int .i64 (.lit 80000))]), (.bool (.lit false)))] }
theorem rs_e2 {a b x : Int}
    (c0 : ∀ w, Calls Try.prog 14 #[.int .i64 a, .int .i64 5000, .int .i64 80000] w fun e w' => e = .returned (.bool (true)) ∧ Below w.heap.size w w')
    (c1 : ∀ w, Calls Try.prog 14 #[.int .i64 b, .int .i64 5000, .int .i64 80000] w fun e w' => e = .returned (.bool (false)) ∧ Below w.heap.size w w') (w : World) :
    Calls Try.prog 19 #[.int .i64 a, .int .i64 b, .int .i64 x] w (fun e w' => e = .returned (.tuple #[.agg #[.int .i64 0, .int .i64 0], .int .i64 2]) ∧ Below w.heap.size w w') :=
  calls_of_ev mixed names (ρ := ⟨fun i => [a, b, x].getD i 0, fun _ => false, fun _ => .empty, fun _ => .nilFunc⟩) (Γ := rs_e2G Try.prog)
    ⟨fz, fz, fz, fz, (fc c0 (fc c1 fz)), fz, extL_ok⟩ (lf := 100000) (d := 60) (args := [(.int .i64 (.var 0)), (.int .i64 (.var 1)), (.int .i64 (.var 2))]) (v := (.tuple [(.agg [(.int .i64 (.lit 0)), (.int .i64 (.lit 0))]), (.int .i64 (.lit 2))])) (H' := []) (by kernel_rfl) rfl rfl (by kernel_rfl) w
def rs_e3G (P : Program) : Facts := {
  exts := extL P,
  eqs := [],
  bits := [],
  fl := [],
  f2i := [],
  calls := [((14, [(.int .i64 (.var 0)), (.int .i64 (.lit 5000)), (.int .i64 (.lit 80000))]), (.bool (.lit true))), ((14, [(.int .i64 (.var 1)), (.int .i64 (.lit 5000)), (.int .i64 (.lit 80000))]), (.bool (.lit true))), ((14, [(.int .i64 (.var 2)), (.int .i64 (.lit 5000)), (.int .i64 (.lit 80000))]), (.bool (.lit false)))] }
theorem rs_e3 {a b x : Int}
    (c0 : ∀ w, Calls Try.prog 14 #[.int .i64 a, .int .i64 5000, .int .i64 80000] w fun e w' => e = .returned (.bool (true)) ∧ Below w.heap.size w w')
    (c1 : ∀ w, Calls Try.prog 14 #[.int .i64 b, .int .i64 5000, .int .i64 80000] w fun e w' => e = .returned (.bool (true)) ∧ Below w.heap.size w w')
    (c2 : ∀ w, Calls Try.prog 14 #[.int .i64 x, .int .i64 5000, .int .i64 80000] w fun e w' => e = .returned (.bool (false)) ∧ Below w.heap.size w w') (w : World) :
    Calls Try.prog 19 #[.int .i64 a, .int .i64 b, .int .i64 x] w (fun e w' => e = .returned (.tuple #[.agg #[.int .i64 0, .int .i64 0], .int .i64 2]) ∧ Below w.heap.size w w') :=
  calls_of_ev mixed names (ρ := ⟨fun i => [a, b, x].getD i 0, fun _ => false, fun _ => .empty, fun _ => .nilFunc⟩) (Γ := rs_e3G Try.prog)
    ⟨fz, fz, fz, fz, (fc c0 (fc c1 (fc c2 fz))), fz, extL_ok⟩ (lf := 100000) (d := 60) (args := [(.int .i64 (.var 0)), (.int .i64 (.var 1)), (.int .i64 (.var 2))]) (v := (.tuple [(.agg [(.int .i64 (.lit 0)), (.int .i64 (.lit 0))]), (.int .i64 (.lit 2))])) (H' := []) (by kernel_rfl) rfl rfl (by kernel_rfl) w
def sf_zeroG (P : Program) : Facts := {
  exts := extL P,
  eqs := [],
  bits := [((.icmp .eql (.var 0) (.var 1)), true)],
  fl := [],
  f2i := [],
  calls := [((45, [(.int .i64 (.var 0)), (.int .i64 (.lit 5000)), (.int .i64 (.lit 80000))]), (.bool (.lit true))), ((45, [(.int .i64 (.var 1)), (.int .i64 (.lit 5000)), (.int .i64 (.lit 80000))]), (.bool (.lit true))), ((45, [(.int .i64 (.var 2)), (.int .i64 (.lit 5000)), (.int .i64 (.lit 80000))]), (.bool (.lit true)))] }
theorem sf_zero {a b x : Int}
    (t0 : ((a : Int) == b) = true)
    (c0 : ∀ w, Calls Try.prog 45 #[.int .i64 a, .int .i64 5000, .int .i64 80000] w fun e w' => e = .returned (.bool (true)) ∧ Below w.heap.size w w')
    (c1 : ∀ w, Calls Try.prog 45 #[.int .i64 b, .int .i64 5000, .int .i64 80000] w fun e w' => e = .returned (.bool (true)) ∧ Below w.heap.size w w')
    (c2 : ∀ w, Calls Try.prog 45 #[.int .i64 x, .int .i64 5000, .int .i64 80000] w fun e w' => e = .returned (.bool (true)) ∧ Below w.heap.size w w') (w : World) :
    Calls Try.prog 17 #[.int .i64 a, .int .i64 b, .int .i64 x] w (fun e w' => e = .returned (.tuple #[.agg #[.int .i64 0, .int .i64 0], .int .i64 9]) ∧ Below w.heap.size w w') :=
  calls_of_ev mixed names (ρ := ⟨fun i => [a, b, x].getD i 0, fun _ => false, fun _ => .empty, fun _ => .nilFunc⟩) (Γ := sf_zeroG Try.prog)
    ⟨fz, (fc t0 fz), fz, fz, (fc c0 (fc c1 (fc c2 fz))), fz, extL_ok⟩ (lf := 100000) (d := 60) (args := [(.int .i64 (.var 0)), (.int .i64 (.var 1)), (.int .i64 (.var 2))]) (v := (.tuple [(.agg [(.int .i64 (.lit 0)), (.int .i64 (.lit 0))]), (.int .i64 (.lit 9))])) (H' := []) (by kernel_rfl) rfl rfl (by kernel_rfl) w
def sf_brkG (P : Program) : Facts := {
  exts := extL P,
  eqs := [((.bin .minI (.var 0) (.var 1)), (.var 3)), ((.bin .maxI (.var 0) (.var 1)), (.var 4))],
  bits := [((.icmp .eql (.var 0) (.var 1)), false)],
  fl := [],
  f2i := [],
  calls := [((45, [(.int .i64 (.var 0)), (.int .i64 (.lit 5000)), (.int .i64 (.lit 80000))]), (.bool (.lit true))), ((45, [(.int .i64 (.var 1)), (.int .i64 (.lit 5000)), (.int .i64 (.lit 80000))]), (.bool (.lit true))), ((45, [(.int .i64 (.var 2)), (.int .i64 (.lit 5000)), (.int .i64 (.lit 80000))]), (.bool (.lit true))), ((45, [(.int .i64 (.var 2)), (.int .i64 (.var 3)), (.int .i64 (.var 4))]), (.bool (.lit false)))] }
theorem sf_brk {a b x v3 v4 : Int}
    (e0 : (if (b : Int) < a then b else a) = v3)
    (e1 : (if (b : Int) > a then b else a) = v4)
    (t0 : ((a : Int) == b) = false)
    (c0 : ∀ w, Calls Try.prog 45 #[.int .i64 a, .int .i64 5000, .int .i64 80000] w fun e w' => e = .returned (.bool (true)) ∧ Below w.heap.size w w')
    (c1 : ∀ w, Calls Try.prog 45 #[.int .i64 b, .int .i64 5000, .int .i64 80000] w fun e w' => e = .returned (.bool (true)) ∧ Below w.heap.size w w')
    (c2 : ∀ w, Calls Try.prog 45 #[.int .i64 x, .int .i64 5000, .int .i64 80000] w fun e w' => e = .returned (.bool (true)) ∧ Below w.heap.size w w')
    (c3 : ∀ w, Calls Try.prog 45 #[.int .i64 x, .int .i64 v3, .int .i64 v4] w fun e w' => e = .returned (.bool (false)) ∧ Below w.heap.size w w') (w : World) :
    Calls Try.prog 17 #[.int .i64 a, .int .i64 b, .int .i64 x] w (fun e w' => e = .returned (.tuple #[.agg #[.int .i64 0, .int .i64 0], .int .i64 24]) ∧ Below w.heap.size w w') :=
  calls_of_ev mixed names (ρ := ⟨fun i => [a, b, x, v3, v4].getD i 0, fun _ => false, fun _ => .empty, fun _ => .nilFunc⟩) (Γ := sf_brkG Try.prog)
    ⟨(fc e0 (fc e1 fz)), (fc t0 fz), fz, fz, (fc c0 (fc c1 (fc c2 (fc c3 fz)))), fz, extL_ok⟩ (lf := 100000) (d := 60) (args := [(.int .i64 (.var 0)), (.int .i64 (.var 1)), (.int .i64 (.var 2))]) (v := (.tuple [(.agg [(.int .i64 (.lit 0)), (.int .i64 (.lit 0))]), (.int .i64 (.lit 24))])) (H' := []) (by kernel_rfl) rfl rfl (by kernel_rfl) w
def sf_e1G (P : Program) : Facts := {
  exts := extL P,
  eqs := [],
  bits := [],
  fl := [],
  f2i := [],
  calls := [((45, [(.int .i64 (.var 0)), (.int .i64 (.lit 5000)), (.int .i64 (.lit 80000))]), (.bool (.lit false)))] }
theorem sf_e1 {a b x : Int}
    (c0 : ∀ w, Calls Try.prog 45 #[.int .i64 a, .int .i64 5000, .int .i64 80000] w fun e w' => e = .returned (.bool (false)) ∧ Below w.heap.size w w') (w : World) :
    Calls Try.prog 17 #[.int .i64 a, .int .i64 b, .int .i64 x] w (fun e w' => e = .returned (.tuple #[.agg #[.int .i64 0, .int .i64 0], .int .i64 2]) ∧ Below w.heap.size w w') :=
  calls_of_ev mixed names (ρ := ⟨fun i => [a, b, x].getD i 0, fun _ => false, fun _ => .empty, fun _ => .nilFunc⟩) (Γ := sf_e1G Try.prog)
    ⟨fz, fz, fz, fz, (fc c0 fz), fz, extL_ok⟩ (lf := 100000) (d := 60) (args := [(.int .i64 (.var 0)), (.int .i64 (.var 1)), (.int .i64 (.var 2))]) (v := (.tuple [(.agg [(.int .i64 (.lit 0)), (.int .i64 (.lit 0))]), (.int .i64 (.lit 2))])) (H' := []) (by kernel_rfl) rfl rfl (by kernel_rfl) w
def sf_e2G (P : Program) : Facts := {
  exts := extL P,
  eqs := [],
  bits := [],
  fl := [],
  f2i := [],
  calls := [((45, [(.int .i64 (.var 0)), (.int .i64 (.lit 5000)), (.int .i64 (.lit 80000))]), (.bool (.lit true))), ((45, [(.int .i64 (.var 1)), (.int .i64 (.lit 5000)), (.int .i64 (.lit 80000))]), (.bool (.lit false)))] }
theorem sf_e2 {a b x : Int}
    (c0 : ∀ w, Calls Try.prog 45 #[.int .i64 a, .int .i64 5000, .int .i64 80000] w fun e w' => e = .returned (.bool (true)) ∧ Below w.heap.size w w')
    (c1 : ∀ w, Calls Try.prog 45 #[.int .i64 b, .int .i64 5000, .int .i64 80000] w fun e w' => e = .returned (.bool (false)) ∧ Below w.heap.size w w') (w : World) :
    Calls Try.prog 17 #[.int .i64 a, .int .i64 b, .int .i64 x] w (fun e w' => e = .returned (.tuple #[.agg #[.int .i64 0, .int .i64 0], .int .i64 2]) ∧ Below w.heap.size w w') :=
  calls_of_ev mixed names (ρ := ⟨fun i => [a, b, x].getD i 0, fun _ => false, fun _ => .empty, fun _ => .nilFunc⟩) (Γ := sf_e2G Try.prog)
    ⟨fz, fz, fz, fz, (fc c0 (fc c1 fz)), fz, extL_ok⟩ (lf := 100000) (d := 60) (args := [(.int .i64 (.var 0)), (.int .i64 (.var 1)), (.int .i64 (.var 2))]) (v := (.tuple [(.agg [(.int .i64 (.lit 0)), (.int .i64 (.lit 0))]), (.int .i64 (.lit 2))])) (H' := []) (by kernel_rfl) rfl rfl (by kernel_rfl) w
def sf_e3G (P : Program) : Facts := {
  exts := extL P,
  eqs := [],
  bits := [],
  fl := [],
  f2i := [],
  calls := [((45, [(.int .i64 (.var 0)), (.int .i64 (.lit 5000)), (.int .i64 (.lit 80000))]), (.bool (.lit true))), ((45, [(.int .i64 (.var 1)), (.int .i64 (.lit 5000)), (.int .i64 (.lit 80000))]), (.bool (.lit true))), ((45, [(.int .i64 (.var 2)), (.int .i64 (.lit 5000)), (.int .i64 (.lit 80000))]), (.bool (.lit false)))] }
theorem sf_e3 {a b x : Int}
    (c0 : ∀ w, Calls Try.prog 45 #[.int .i64 a, .int .i64 5000, .int .i64 80000] w fun e w' => e = .returned (.bool (true)) ∧ Below w.heap.size w w')
    (c1 : ∀ w, Calls Try.prog 45 #[.int .i64 b, .int .i64 5000, .int .i64 80000] w fun e w' => e = .returned (.bool (true)) ∧ Below w.heap.size w w')
    (c2 : ∀ w, Calls Try.prog 45 #[.int .i64 x, .int .i64 5000, .int .i64 80000] w fun e w' => e = .returned (.bool (false)) ∧ Below w.heap.size w w') (w : World) :
    Calls Try.prog 17 #[.int .i64 a, .int .i64 b, .int .i64 x] w (fun e w' => e = .returned (.tuple #[.agg #[.int .i64 0, .int .i64 0], .int .i64 2]) ∧ Below w.heap.size w w') :=
  calls_of_ev mixed names (ρ := ⟨fun i => [a, b, x].getD i 0, fun _ => false, fun _ => .empty, fun _ => .nilFunc⟩) (Γ := sf_e3G Try.prog)
    ⟨fz, fz, fz, fz, (fc c0 (fc c1 (fc c2 fz))), fz, extL_ok⟩ (lf := 100000) (d := 60) (args := [(.int .i64 (.var 0)), (.int .i64 (.var 1)), (.int .i64 (.var 2))]) (v := (.tuple [(.agg [(.int .i64 (.lit 0)), (.int .i64 (.lit 0))]), (.int .i64 (.lit 2))])) (H' := []) (by kernel_rfl) rfl rfl (by kernel_rfl) w
def rm_e1G (P : Program) : Facts := {
  exts := extL P,
  eqs := [],
  bits := [],
  fl := [],
  f2i := [],
  calls := [((14, [(.int .i64 (.var 0)), (.int .i64 (.lit 5000)), (.int .i64 (.lit 80000))]), (.bool (.lit false)))] }
theorem rm_e1 {a b x : Int}
    (c0 : ∀ w, Calls Try.prog 14 #[.int .i64 a, .int .i64 5000, .int .i64 80000] w fun e w' => e = .returned (.bool (false)) ∧ Below w.heap.size w w') (w : World) :
    Calls Try.prog 18 #[.int .i64 a, .int .i64 b, .int .i64 x] w (fun e w' => e = .returned (.tuple #[.agg #[.int .i64 0, .int .i64 0], .int .i64 2]) ∧ Below w.heap.size w w') :=
  calls_of_ev mixed names (ρ := ⟨fun i => [a, b, x].getD i 0, fun _ => false, fun _ => .empty, fun _ => .nilFunc⟩) (Γ := rm_e1G Try.prog)
    ⟨fz, fz, fz, fz, (fc c0 fz), fz, extL_ok⟩ (lf := 100000) (d := 60) (args := [(.int .i64 (.var 0)), (.int .i64 (.var 1)), (.int .i64 (.var 2))]) (v := (.tuple [(.agg [(.int .i64 (.lit 0)), (.int .i64 (.lit 0))]), (.int .i64 (.lit 2))])) (H' := []) (by kernel_rfl) rfl rfl (by kernel_rfl) w
def rm_e2G (P : Program) : Facts := {
  exts := extL P,
  eqs := [],
  bits := [],
  fl := [],
  f2i := [],
  calls := [((14, [(.int .i64 (.var 0)), (.int .i64 (.lit 5000)), (.int .i64 (.lit 80000))]), (.bool (.lit true))), ((14, [(.int .i64 (.var 1)), (.int .i64 (.lit 5000)), (.int .i64 (.lit 80000))]), (.bool (.lit false)))] }
theorem rm_e2 {a b x : Int}
    (c0 : ∀ w, Calls Try.prog 14 #[.int .i64 a, .int .i64 5000, .int .i64 80000] w fun e w' => e = .returned (.bool (true)) ∧ Below w.heap.size w w')
    (c1 : ∀ w, Calls Try.prog 14 #[.int .i64 b, .int .i64 5000, .int .i64 80000] w fun e w' => e = .returned (.bool (false)) ∧ Below w.heap.size w w') (w : World) :
    Calls Try.prog 18 #[.int .i64 a, .int .i64 b, .int .i64 x] w (fun e w' => e = .returned (.tuple #[.agg #[.int .i64 0, .int .i64 0], .int .i64 2]) ∧ Below w.heap.size w w') :=
  calls_of_ev mixed names (ρ := ⟨fun i => [a, b, x].getD i 0, fun _ => false, fun _ => .empty, fun _ => .nilFunc⟩) (Γ := rm_e2G Try.prog)
    ⟨fz, fz, fz, fz, (fc c0 (fc c1 fz)), fz, extL_ok⟩ (lf := 100000) (d := 60) (args := [(.int .i64 (.var 0)), (.int .i64 (.var 1)), (.int .i64 (.var 2))]) (v := (.tuple [(.agg [(.int .i64 (.lit 0)), (.int .i64 (.lit 0))]), (.int .i64 (.lit 2))])) (H' := []) (by kernel_rfl) rfl rfl (by kernel_rfl) w
def rm_e3G (P : Program) : Facts := {
  exts := extL P,
  eqs := [],
  bits := [],
  fl := [],
  f2i := [],
  calls := [((14, [(.int .i64 (.var 0)), (.int .i64 (.lit 5000)), (.int .i64 (.lit 80000))]), (.bool (.lit true))), ((14, [(.int .i64 (.var 1)), (.int .i64 (.lit 5000)), (.int .i64 (.lit 80000))]), (.bool (.lit true))), ((14, [(.int .i64 (.var 2)), (.int .i64 (.lit 0)), (.int .i64 (.lit 10000))]), (.bool (.lit false)))] }
theorem rm_e3 {a b x : Int}
    (c0 : ∀ w, Calls Try.prog 14 #[.int .i64 a, .int .i64 5000, .int .i64 80000] w fun e w' => e = .returned (.bool (true)) ∧ Below w.heap.size w w')
    (c1 : ∀ w, Calls Try.prog 14 #[.int .i64 b, .int .i64 5000, .int .i64 80000] w fun e w' => e = .returned (.bool (true)) ∧ Below w.heap.size w w')
    (c2 : ∀ w, Calls Try.prog 14 #[.int .i64 x, .int .i64 0, .int .i64 10000] w fun e w' => e = .returned (.bool (false)) ∧ Below w.heap.size w w') (w : World) :
    Calls Try.prog 18 #[.int .i64 a, .int .i64 b, .int .i64 x] w (fun e w' => e = .returned (.tuple #[.agg #[.int .i64 0, .int .i64 0], .int .i64 2]) ∧ Below w.heap.size w w') :=
  calls_of_ev mixed names (ρ := ⟨fun i => [a, b, x].getD i 0, fun _ => false, fun _ => .empty, fun _ => .nilFunc⟩) (Γ := rm_e3G Try.prog)
    ⟨fz, fz, fz, fz, (fc c0 (fc c1 (fc c2 fz))), fz, extL_ok⟩ (lf := 100000) (d := 60) (args := [(.int .i64 (.var 0)), (.int .i64 (.var 1)), (.int .i64 (.var 2))]) (v := (.tuple [(.agg [(.int .i64 (.lit 0)), (.int .i64 (.lit 0))]), (.int .i64 (.lit 2))])) (H' := []) (by kernel_rfl) rfl rfl (by kernel_rfl) w
def gx_okG (P : Program) : Facts := {
  exts := extL P,
  eqs := [],
  bits := [((.icmp .eql (.var 6) (.var 12)), true), ((.and (.icmp .eql (.var 4) (.var 10)) (.icmp .eql (.var 5) (.var 11))), true), ((.icmp .eql (.var 9) (.var 15)), true)],
  fl := [],
  f2i := [],
  calls := [((8, []), (.bool (.lit true))), ((16, [(.int .i64 (.var 0)), (.int .i64 (.var 1)), (.int .i64 (.var 2))]), (.tuple [(.agg [(.int .i64 (.var 4)), (.int .i64 (.var 5))]), (.int .i64 (.var 6))])), ((17, [(.int .i64 (.var 0)), (.int .i64 (.var 1)), (.int .i64 (.var 3))]), (.tuple [(.agg [(.int .i64 (.var 7)), (.int .i64 (.var 8))]), (.int .i64 (.var 9))])), ((18, [(.int .i64 (.var 0)), (.int .i64 (.var 1)), (.int .i64 (.var 2))]), (.tuple [(.agg [(.int .i64 (.var 10)), (.int .i64 (.var 11))]), (.int .i64 (.var 12))])), ((19, [(.int .i64 (.var 0)), (.int .i64 (.var 1)), (.int .i64 (.var 3))]), (.tuple [(.agg [(.int .i64 (.var 13)), (.int .i64 (.var 14))]), (.int .i64 (.var 15))]))] }
theorem gx_ok {a b x y v4 v5 v6 v7 v8 v9 v10 v11 v12 v13 v14 v15 : Int}
    (t0 : ((v6 : Int) == v12) = true)
    (t1 : (((v4 : Int) == v10) && ((v5 : Int) == v11)) = true)
    (t2 : ((v9 : Int) == v15) = true)
    (c0 : ∀ w, Calls Try.prog 8 #[] w fun e w' => e = .returned (.bool (true)) ∧ Below w.heap.size w w')
    (c1 : ∀ w, Calls Try.prog 16 #[.int .i64 a, .int .i64 b, .int .i64 x] w fun e w' => e = .returned (.tuple #[.agg #[.int .i64 v4, .int .i64 v5], .int .i64 v6]) ∧ Below w.heap.size w w')
    (c2 : ∀ w, Calls Try.prog 17 #[.int .i64 a, .int .i64 b, .int .i64 y] w fun e w' => e = .returned (.tuple #[.agg #[.int .i64 v7, .int .i64 v8], .int .i64 v9]) ∧ Below w.heap.size w w')
    (c3 : ∀ w, Calls Try.prog 18 #[.int .i64 a, .int .i64 b, .int .i64 x] w fun e w' => e = .returned (.tuple #[.agg #[.int .i64 v10, .int .i64 v11], .int .i64 v12]) ∧ Below w.heap.size w w')
    (c4 : ∀ w, Calls Try.prog 19 #[.int .i64 a, .int .i64 b, .int .i64 y] w fun e w' => e = .returned (.tuple #[.agg #[.int .i64 v13, .int .i64 v14], .int .i64 v15]) ∧ Below w.heap.size w w') (w : World) :
    Calls Try.prog 5 #[.int .i64 a, .int .i64 b, .agg #[.int .i64 x, .int .i64 y]] w (fun e w' => e = .returned (.bool ((((v7 : Int) == v13) && ((v8 : Int) == v14)))) ∧ Below w.heap.size w w') :=
  calls_of_ev mixed names (ρ := ⟨fun i => [a, b, x, y, v4, v5, v6, v7, v8, v9, v10, v11, v12, v13, v14, v15].getD i 0, fun _ => false, fun _ => .empty, fun _ => .nilFunc⟩) (Γ := gx_okG Try.prog)
    ⟨fz, (fc t0 (fc t1 (fc t2 fz))), fz, fz, (fc c0 (fc c1 (fc c2 (fc c3 (fc c4 fz))))), fz, extL_ok⟩ (lf := 100000) (d := 60) (args := [(.int .i64 (.var 0)), (.int .i64 (.var 1)), (.agg [(.int .i64 (.var 2)), (.int .i64 (.var 3))])]) (v := (.bool (.and (.icmp .eql (.var 7) (.var 13)) (.icmp .eql (.var 8) (.var 14))))) (H' := []) (by kernel_rfl) rfl rfl (by kernel_rfl) w
def bw_fG (P : Program) : Facts := {
  exts := extL P,
  eqs := [],
  bits := [((.icmp .leq (.var 1) (.var 0)), false)],
  fl := [],
  f2i := [],
  calls := [] }
theorem bw_f {n lo hi : Int}
    (t0 : decide ((lo : Int) ≤ n) = false) (w : World) :
    Calls Try.prog 14 #[.int .i64 n, .int .i64 lo, .int .i64 hi] w (fun e w' => e = .returned (.bool (false)) ∧ Below w.heap.size w w') :=
  calls_of_ev mixed names (ρ := ⟨fun i => [n, lo, hi].getD i 0, fun _ => false, fun _ => .empty, fun _ => .nilFunc⟩) (Γ := bw_fG Try.prog)
    ⟨fz, (fc t0 fz), fz, fz, fz, fz, extL_ok⟩ (lf := 100000) (d := 60) (args := [(.int .i64 (.var 0)), (.int .i64 (.var 1)), (.int .i64 (.var 2))]) (v := (.bool (.lit false))) (H' := []) (by kernel_rfl) rfl rfl (by kernel_rfl) w
end Go.Proofs.Ytpgojkoldhpbkaa.Ev
