/- Mixtures: what the functions do, by the symbolic machine. -/
import Derived.Test.YtpgojkoldhpbkaaEvx
namespace Go.Proofs.Ytpgojkoldhpbkaa.Ev
set_option linter.unusedSimpArgs false
open Go Go.RowKit
set_option maxRecDepth 100000
def wi_tG (P : Program) : Facts := {
  exts := extL P,
  eqs := [],
  bits := [((.icmp .leq (.var 1) (.var 0)), true)],
  fl := [],
  f2i := [],
  calls := [] }
theorem wi_t {n lo hi : Int}
    (t0 : decide ((lo : Int) ≤ n) = true) (w : World) :
    Calls Try.prog 45 #[.int .i64 n, .int .i64 lo, .int .i64 hi] w (fun e w' => e = .returned (.bool (decide ((n : Int) ≤ hi))) ∧ Below w.heap.size w w') :=
  calls_of_ev mixed names (ρ := ⟨fun i => [n, lo, hi].getD i 0, fun _ => false, fun _ => .empty, fun _ => .nilFunc⟩) (Γ := wi_tG Try.prog)
    ⟨fz, (fc t0 fz), fz, fz, fz, fz, extL_ok⟩ (lf := 100000) (d := 60) (args := [(.int .i64 (.var 0)), (.int .i64 (.var 1)), (.int .i64 (.var 2))]) (v := (.bool (.icmp .leq (.var 0) (.var 2)))) (H' := []) (by kernel_rfl) rfl rfl (by kernel_rfl) w
def wi_f1G (P : Program) : Facts := {
  exts := extL P,
  eqs := [],
  bits := [((.icmp .leq (.var 1) (.var 0)), false)],
  fl := [],
  f2i := [],
  calls := [] }
theorem wi_f1 {n lo hi : Int}
    (t0 : decide ((lo : Int) ≤ n) = false) (w : World) :
    Calls Try.prog 45 #[.int .i64 n, .int .i64 lo, .int .i64 hi] w (fun e w' => e = .returned (.bool (false)) ∧ Below w.heap.size w w') :=
  calls_of_ev mixed names (ρ := ⟨fun i => [n, lo, hi].getD i 0, fun _ => false, fun _ => .empty, fun _ => .nilFunc⟩) (Γ := wi_f1G Try.prog)
    ⟨fz, (fc t0 fz), fz, fz, fz, fz, extL_ok⟩ (lf := 100000) (d := 60) (args := [(.int .i64 (.var 0)), (.int .i64 (.var 1)), (.int .i64 (.var 2))]) (v := (.bool (.lit false))) (H' := []) (by kernel_rfl) rfl rfl (by kernel_rfl) w
def wi_f2G (P : Program) : Facts := {
  exts := extL P,
  eqs := [],
  bits := [((.icmp .leq (.var 1) (.var 0)), true)],
  fl := [],
  f2i := [],
  calls := [] }
theorem wi_f2 {n lo hi : Int}
    (t0 : decide ((lo : Int) ≤ n) = true) (w : World) :
    Calls Try.prog 45 #[.int .i64 n, .int .i64 lo, .int .i64 hi] w (fun e w' => e = .returned (.bool (decide ((n : Int) ≤ hi))) ∧ Below w.heap.size w w') :=
  calls_of_ev mixed names (ρ := ⟨fun i => [n, lo, hi].getD i 0, fun _ => false, fun _ => .empty, fun _ => .nilFunc⟩) (Γ := wi_f2G Try.prog)
    ⟨fz, (fc t0 fz), fz, fz, fz, fz, extL_ok⟩ (lf := 100000) (d := 60) (args := [(.int .i64 (.var 0)), (.int .i64 (.var 1)), (.int .i64 (.var 2))]) (v := (.bool (.icmp .leq (.var 0) (.var 2)))) (H' := []) (by kernel_rfl) rfl rfl (by kernel_rfl) w
def bw_tG (P : Program) : Facts := {
  exts := extL P,
  eqs := [],
  bits := [((.icmp .leq (.var 1) (.var 0)), true)],
  fl := [],
  f2i := [],
  calls := [] }
theorem bw_t {n lo hi : Int}
    (t0 : decide ((lo : Int) ≤ n) = true) (w : World) :
    Calls Try.prog 14 #[.int .i64 n, .int .i64 lo, .int .i64 hi] w (fun e w' => e = .returned (.bool (decide ((n : Int) ≤ hi))) ∧ Below w.heap.size w w') :=
  calls_of_ev mixed names (ρ := ⟨fun i => [n, lo, hi].getD i 0, fun _ => false, fun _ => .empty, fun _ => .nilFunc⟩) (Γ := bw_tG Try.prog)
    ⟨fz, (fc t0 fz), fz, fz, fz, fz, extL_ok⟩ (lf := 100000) (d := 60) (args := [(.int .i64 (.var 0)), (.int .i64 (.var 1)), (.int .i64 (.var 2))]) (v := (.bool (.icmp .leq (.var 0) (.var 2)))) (H' := []) (by kernel_rfl) rfl rfl (by kernel_rfl) w
def mb_okG (P : Program) : Facts := {
  exts := extL P,
  eqs := [((.bin (.subW .i64) (.lit 10000) (.var 2)), (.var 3)), ((.bin (.mulW .i64) (.lit 10000) (.var 0)), (.var 4)), ((.bin (.mulW .i64) (.var 4) (.var 0)), (.var 5)), ((.bin (.mulW .i64) (.var 1) (.var 1)), (.var 6)), ((.bin (.mulW .i64) (.var 2) (.var 1)), (.var 7)), ((.bin (.mulW .i64) (.var 7) (.var 1)), (.var 8)), ((.bin (.mulW .i64) (.var 3) (.var 0)), (.var 9)), ((.bin (.mulW .i64) (.var 9) (.var 0)), (.var 10)), ((.bin (.addW .i64) (.var 8) (.var 10)), (.var 11)), ((.bin (.mulW .i64) (.var 2) (.var 0)), (.var 13)), ((.bin (.mulW .i64) (.var 13) (.var 0)), (.var 14)), ((.bin (.mulW .i64) (.var 3) (.var 1)), (.var 15)), ((.bin (.mulW .i64) (.var 15) (.var 1)), (.var 16)), ((.bin (.addW .i64) (.var 14) (.var 16)), (.var 17))],
  bits := [],
  fl := [],
  f2i := [],
  calls := [((45, [(.int .i64 (.var 0)), (.int .i64 (.lit 5000)), (.int .i64 (.lit 80000))]), (.bool (.lit true))), ((45, [(.int .i64 (.var 1)), (.int .i64 (.lit 5000)), (.int .i64 (.lit 80000))]), (.bool (.lit true))), ((45, [(.int .i64 (.var 2)), (.int .i64 (.lit 0)), (.int .i64 (.lit 10000))]), (.bool (.lit true))), ((49, [(.int .i64 (.var 5)), (.int .i64 (.var 6)), (.int .i64 (.var 11))]), (.int .i64 (.var 12))), ((50, [(.int .i64 (.var 17)), (.int .i64 (.lit 1)), (.int .i64 (.lit 10000))]), (.int .i64 (.var 18))), ((51, [(.int .i64 (.var 12))]), (.int .i64 (.var 19))), ((52, [(.int .i64 (.var 18))]), (.int .i64 (.var 20)))] }
theorem mb_ok {a b s v3 v4 v5 v6 v7 v8 v9 v10 v11 v12 v13 v14 v15 v16 v17 v18 v19 v20 : Int}
    (e0 : IntKind.i64.wrap (10000 - s) = v3)
    (e1 : IntKind.i64.wrap (10000 * a) = v4)
    (e2 : IntKind.i64.wrap (v4 * a) = v5)
    (e3 : IntKind.i64.wrap (b * b) = v6)
    (e4 : IntKind.i64.wrap (s * b) = v7)
    (e5 : IntKind.i64.wrap (v7 * b) = v8)
    (e6 : IntKind.i64.wrap (v3 * a) = v9)
    (e7 : IntKind.i64.wrap (v9 * a) = v10)
    (e8 : IntKind.i64.wrap (v8 + v10) = v11)
    (e9 : IntKind.i64.wrap (s * a) = v13)
    (e10 : IntKind.i64.wrap (v13 * a) = v14)
    (e11 : IntKind.i64.wrap (v3 * b) = v15)
    (e12 : IntKind.i64.wrap (v15 * b) = v16)
    (e13 : IntKind.i64.wrap (v14 + v16) = v17)
    (c0 : ∀ w, Calls Try.prog 45 #[.int .i64 a, .int .i64 5000, .int .i64 80000] w fun e w' => e = .returned (.bool (true)) ∧ Below w.heap.size w w')
    (c1 : ∀ w, Calls Try.prog 45 #[.int .i64 b, .int .i64 5000, .int .i64 80000] w fun e w' => e = .returned (.bool (true)) ∧ Below w.heap.size w w')
    (c2 : ∀ w, Calls Try.prog 45 #[.int .i64 s, .int .i64 0, .int .i64 10000] w fun e w' => e = .returned (.bool (true)) ∧ Below w.heap.size w w')
    (c3 : ∀ w, Calls Try.prog 49 #[.int .i64 v5, .int .i64 v6, .int .i64 v11] w fun e w' => e = .returned (.int .i64 v12) ∧ Below w.heap.size w w')
    (c4 : ∀ w, Calls Try.prog 50 #[.int .i64 v17, .int .i64 1, .int .i64 10000] w fun e w' => e = .returned (.int .i64 v18) ∧ Below w.heap.size w w')
    (c5 : ∀ w, Calls Try.prog 51 #[.int .i64 v12] w fun e w' => e = .returned (.int .i64 v19) ∧ Below w.heap.size w w')
    (c6 : ∀ w, Calls Try.prog 52 #[.int .i64 v18] w fun e w' => e = .returned (.int .i64 v20) ∧ Below w.heap.size w w') (w : World) :
    Calls Try.prog 16 #[.int .i64 a, .int .i64 b, .int .i64 s] w (fun e w' => e = .returned (.tuple #[.agg #[.int .i64 v19, .int .i64 v20], .int .i64 0]) ∧ Below w.heap.size w w') :=
  calls_of_ev mixed names (ρ := ⟨fun i => [a, b, s, v3, v4, v5, v6, v7, v8, v9, v10, v11, v12, v13, v14, v15, v16, v17, v18, v19, v20].getD i 0, fun _ => false, fun _ => .empty, fun _ => .nilFunc⟩) (Γ := mb_okG Try.prog)
    ⟨(fc e0 (fc e1 (fc e2 (fc e3 (fc e4 (fc e5 (fc e6 (fc e7 (fc e8 (fc e9 (fc e10 (fc e11 (fc e12 (fc e13 fz)))))))))))))), fz, fz, fz, (fc c0 (fc c1 (fc c2 (fc c3 (fc c4 (fc c5 (fc c6 fz))))))), fz, extL_ok⟩ (lf := 100000) (d := 60) (args := [(.int .i64 (.var 0)), (.int .i64 (.var 1)), (.int .i64 (.var 2))]) (v := (.tuple [(.agg [(.int .i64 (.var 19)), (.int .i64 (.var 20))]), (.int .i64 (.lit 0))])) (H' := []) (by kernel_rfl) rfl rfl (by kernel_rfl) w
def mb_e1G (P : Program) : Facts := {
  exts := extL P,
  eqs := [],
  bits := [],
  fl := [],
  f2i := [],
  calls := [((45, [(.int .i64 (.var 0)), (.int .i64 (.lit 5000)), (.int .i64 (.lit 80000))]), (.bool (.lit false)))] }
theorem mb_e1 {a b s : Int}
    (c0 : ∀ w, Calls Try.prog 45 #[.int .i64 a, .int .i64 5000, .int .i64 80000] w fun e w' => e = .returned (.bool (false)) ∧ Below w.heap.size w w') (w : World) :
    Calls Try.prog 16 #[.int .i64 a, .int .i64 b, .int .i64 s] w (fun e w' => e = .returned (.tuple #[.agg #[.int .i64 0, .int .i64 0], .int .i64 2]) ∧ Below w.heap.size w w') :=
  calls_of_ev mixed names (ρ := ⟨fun i => [a, b, s].getD i 0, fun _ => false, fun _ => .empty, fun _ => .nilFunc⟩) (Γ := mb_e1G Try.prog)
    ⟨fz, fz, fz, fz, (fc c0 fz), fz, extL_ok⟩ (lf := 100000) (d := 60) (args := [(.int .i64 (.var 0)), (.int .i64 (.var 1)), (.int .i64 (.var 2))]) (v := (.tuple [(.agg [(.int .i64 (.lit 0)), (.int .i64 (.lit 0))]), (.int .i64 (.lit 2))])) (H' := []) (by kernel_rfl) rfl rfl (by kernel_rfl) w
def mb_e2G (P : Program) : Facts := {
  exts := extL P,
  eqs := [],
  bits := [],
  fl := [],
  f2i := [],
  calls := [((45, [(.int .i64 (.var 0)), (.int .i64 (.lit 5000)), (.int .i64 (.lit 80000))]), (.bool (.lit true))), ((45, [(.int .i64 (.var 1)), (.int .i64 (.lit 5000)), (.int .i64 (.lit 80000))]), (.bool (.lit false)))] }
theorem mb_e2 {a b s : Int}
    (c0 : ∀ w, Calls Try.prog 45 #[.int .i64 a, .int .i64 5000, .int .i64 80000] w fun e w' => e = .returned (.bool (true)) ∧ Below w.heap.size w w')
    (c1 : ∀ w, Calls Try.prog 45 #[.int .i64 b, .int .i64 5000, .int .i64 80000] w fun e w' => e = .returned (.bool (false)) ∧ Below w.heap.size w w') (w : World) :
    Calls Try.prog 16 #[.int .i64 a, .int .i64 b, .int .i64 s] w (fun e w' => e = .returned (.tuple #[.agg #[.int .i64 0, .int .i64 0], .int .i64 2]) ∧ Below w.heap.size w w') :=
  calls_of_ev mixed names (ρ := ⟨fun i => [a, b, s].getD i 0, fun _ => false, fun _ => .empty, fun _ => .nilFunc⟩) (Γ := mb_e2G Try.prog)
    ⟨fz, fz, fz, fz, (fc c0 (fc c1 fz)), fz, extL_ok⟩ (lf := 100000) (d := 60) (args := [(.int .i64 (.var 0)), (.int .i64 (.var 1)), (.int .i64 (.var 2))]) (v := (.tuple [(.agg [(.int .i64 (.lit 0)), (.int .i64 (.lit 0))]), (.int .i64 (.lit 2))])) (H' := []) (by kernel_rfl) rfl rfl (by kernel_rfl) w
def mb_e3G (P : Program) : Facts := {
  exts := extL P,
  eqs := [],
  bits := [],
  fl := [],
  f2i := [],
  calls := [((45, [(.int .i64 (.var 0)), (.int .i64 (.lit 5000)), (.int .i64 (.lit 80000))]), (.bool (.lit true))), ((45, [(.int .i64 (.var 1)), (.int .i64 (.lit 5000)), (.int .i64 (.lit 80000))]), (.bool (.lit true))), ((45, [(.int .i64 (.var 2)), (.int .i64 (.lit 0)), (.int .i64 (.lit 10000))]), (.bool (.lit false)))] }
theorem mb_e3 {a b s : Int}
    (c0 : ∀ w, Calls Try.prog 45 #[.int .i64 a, .int .i64 5000, .int .i64 80000] w fun e w' => e = .returned (.bool (true)) ∧ Below w.heap.size w w')
    (c1 : ∀ w, Calls Try.prog 45 #[.int .i64 b, .int .i64 5000, .int .i64 80000] w fun e w' => e = .returned (.bool (true)) ∧ Below w.heap.size w w')
    (c2 : ∀ w, Calls Try.prog 45 #[.int .i64 s, .int .i64 0, .int .i64 10000] w fun e w' => e = .returned (.bool (false)) ∧ Below w.heap.size w w') (w : World) :
    Calls Try.prog 16 #[.int .i64 a, .int .i64 b, .int .i64 s] w (fun e w' => e = .returned (.tuple #[.agg #[.int .i64 0, .int .i64 0], .int .i64 2]) ∧ Below w.heap.size w w') :=
  calls_of_ev mixed names (ρ := ⟨fun i => [a, b, s].getD i 0, fun _ => false, fun _ => .empty, fun _ => .nilFunc⟩) (Γ := mb_e3G Try.prog)
    ⟨fz, fz, fz, fz, (fc c0 (fc c1 (fc c2 fz))), fz, extL_ok⟩ (lf := 100000) (d := 60) (args := [(.int .i64 (.var 0)), (.int .i64 (.var 1)), (.int .i64 (.var 2))]) (v := (.tuple [(.agg [(.int .i64 (.lit 0)), (.int .i64 (.lit 0))]), (.int .i64 (.lit 2))])) (H' := []) (by kernel_rfl) rfl rfl (by kernel_rfl) w
def sf_ltG (P : Program) : Facts := {
  exts := extL P,
  eqs := [((.bin .minI (.var 0) (.var 1)), (.var 3)), ((.bin .maxI (.var 0) (.var 1)), (.var 4)), ((.bin (.mulW .i64) (.var 2) (.var 2)), (.var 5)), ((.bin (.mulW .i64) (.var 1) (.var 1)), (.var 6)), ((.bin (.subW .i64) (.var 5) (.var 6)), (.var 7)), ((.bin (.mulW .i64) (.var 0) (.var 0)), (.var 8)), ((.bin (.subW .i64) (.var 8) (.var 6)), (.var 9)), ((.bin (.subW .i64) (.lit 0) (.var 7)), (.var 10)), ((.bin (.subW .i64) (.lit 0) (.var 9)), (.var 11)), ((.bin (.mulW .i64) (.lit 10000) (.var 10)), (.var 12))],
  bits := [((.icmp .eql (.var 0) (.var 1)), false), ((.icmp .lss (.var 9) (.lit 0)), true)],
  fl := [],
  f2i := [],
  calls := [((45, [(.int .i64 (.var 0)), (.int .i64 (.lit 5000)), (.int .i64 (.lit 80000))]), (.bool (.lit true))), ((45, [(.int .i64 (.var 1)), (.int .i64 (.lit 5000)), (.int .i64 (.lit 80000))]), (.bool (.lit true))), ((45, [(.int .i64 (.var 2)), (.int .i64 (.lit 5000)), (.int .i64 (.lit 80000))]), (.bool (.lit true))), ((45, [(.int .i64 (.var 2)), (.int .i64 (.var 3)), (.int .i64 (.var 4))]), (.bool (.lit true))), ((49, [(.int .i64 (.var 12)), (.int .i64 (.lit 1)), (.int .i64 (.var 11))]), (.int .i64 (.var 13))), ((50, [(.int .i64 (.var 12)), (.int .i64 (.lit 1)), (.int .i64 (.var 11))]), (.int .i64 (.var 14)))] }
theorem sf_lt {a b x v3 v4 v5 v6 v7 v8 v9 v10 v11 v12 v13 v14 : Int}
    (e0 : (if (b : Int) < a then b else a) = v3)
    (e1 : (if (b : Int) > a then b else a) = v4)
    (e2 : IntKind.i64.wrap (x * x) = v5)
    (e3 : IntKind.i64.wrap (b * b) = v6)
    (e4 : IntKind.i64.wrap (v5 - v6) = v7)
    (e5 : IntKind.i64.wrap (a * a) = v8)
    (e6 : IntKind.i64.wrap (v8 - v6) = v9)
    (e7 : IntKind.i64.wrap (0 - v7) = v10)
    (e8 : IntKind.i64.wrap (0 - v9) = v11)
    (e9 : IntKind.i64.wrap (10000 * v10) = v12)
    (t0 : ((a : Int) == b) = false)
    (t1 : decide ((v9 : Int) < 0) = true)
    (c0 : ∀ w, Calls Try.prog 45 #[.int .i64 a, .int .i64 5000, .int .i64 80000] w fun e w' => e = .returned (.bool (true)) ∧ Below w.heap.size w w')
    (c1 : ∀ w, Calls Try.prog 45 #[.int .i64 b, .int .i64 5000, .int .i64 80000] w fun e w' => e = .returned (.bool (true)) ∧ Below w.heap.size w w')
    (c2 : ∀ w, Calls Try.prog 45 #[.int .i64 x, .int .i64 5000, .int .i64 80000] w fun e w' => e = .returned (.bool (true)) ∧ Below w.heap.size w w')
    (c3 : ∀ w, Calls Try.prog 45 #[.int .i64 x, .int .i64 v3, .int .i64 v4] w fun e w' => e = .returned (.bool (true)) ∧ Below w.heap.size w w')
    (c4 : ∀ w, Calls Try.prog 49 #[.int .i64 v12, .int .i64 1, .int .i64 v11] w fun e w' => e = .returned (.int .i64 v13) ∧ Below w.heap.size w w')
    (c5 : ∀ w, Calls Try.prog 50 #[.int .i64 v12, .int .i64 1, .int .i64 v11] w fun e w' => e = .returned (.int .i64 v14) ∧ Below w.heap.size w w') (w : World) :
    Calls Try.prog 17 #[.int .i64 a, .int .i64 b, .int .i64 x] w (fun e w' => e = .returned (.tuple #[.agg #[.int .i64 v13, .int .i64 v14], .int .i64 0]) ∧ Below w.heap.size w w') :=
  calls_of_ev mixed names (ρ := ⟨fun i => [a, b, x, v3, v4, v5, v6, v7, v8, v9, v10, v11, v12, v13, v14].getD i 0, fun _ => false, fun _ => .empty, fun _ => .nilFunc⟩) (Γ := sf_ltG Try.prog)
    ⟨(fc e0 (fc e1 (fc e2 (fc e3 (fc e4 (fc e5 (fc e6 (fc e7 (fc e8 (fc e9 fz)))))))))), (fc t0 (fc t1 fz)), fz, fz, (fc c0 (fc c1 (fc c2 (fc c3 (fc c4 (fc c5 fz)))))), fz, extL_ok⟩ (lf := 100000) (d := 60) (args := [(.int .i64 (.var 0)), (.int .i64 (.var 1)), (.int .i64 (.var 2))]) (v := (.tuple [(.agg [(.int .i64 (.var 13)), (.int .i64 (.var 14))]), (.int .i64 (.lit 0))])) (H' := []) (by kernel_rfl) rfl rfl (by kernel_rfl) w
def sf_gtG (P : Program) : Facts := {
  exts := extL P,
  eqs := [((.bin .minI (.var 0) (.var 1)), (.var 3)), ((.bin .maxI (.var 0) (.var 1)), (.var 4)), ((.bin (.mulW .i64) (.var 2) (.var 2)), (.var 5)), ((.bin (.mulW .i64) (.var 1) (.var 1)), (.var 6)), ((.bin (.subW .i64) (.var 5) (.var 6)), (.var 7)), ((.bin (.mulW .i64) (.var 0) (.var 0)), (.var 8)), ((.bin (.subW .i64) (.var 8) (.var 6)), (.var 9)), ((.bin (.mulW .i64) (.lit 10000) (.var 7)), (.var 10))],
  bits := [((.icmp .eql (.var 0) (.var 1)), false), ((.icmp .lss (.var 9) (.lit 0)), false)],
  fl := [],
  f2i := [],
  calls := [((45, [(.int .i64 (.var 0)), (.int .i64 (.lit 5000)), (.int .i64 (.lit 80000))]), (.bool (.lit true))), ((45, [(.int .i64 (.var 1)), (.int .i64 (.lit 5000)), (.int .i64 (.lit 80000))]), (.bool (.lit true))), ((45, [(.int .i64 (.var 2)), (.int .i64 (.lit 5000)), (.int .i64 (.lit 80000))]), (.bool (.lit true))), ((45, [(.int .i64 (.var 2)), (.int .i64 (.var 3)), (.int .i64 (.var 4))]), (.bool (.lit true))), ((49, [(.int .i64 (.var 10)), (.int .i64 (.lit 1)), (.int .i64 (.var 9))]), (.int .i64 (.var 11))), ((50, [(.int .i64 (.var 10)), (.int .i64 (.lit 1)), (.int .i64 (.var 9))]), (.int .i64 (.var 12)))] }
theorem sf_gt {a b x v3 v4 v5 v6 v7 v8 v9 v10 v11 v12 : Int}
    (e0 : (if (b : Int) < a then b else a) = v3)
    (e1 : (if (b : Int) > a then b else a) = v4)
    (e2 : IntKind.i64.wrap (x * x) = v5)
    (e3 : IntKind.i64.wrap (b * b) = v6)
    (e4 : IntKind.i64.wrap (v5 - v6) = v7)
    (e5 : IntKind.i64.wrap (a * a) = v8)
    (e6 : IntKind.i64.wrap (v8 - v6) = v9)
    (e7 : IntKind.i64.wrap (10000 * v7) = v10)
    (t0 : ((a : Int) == b) = false)
    (t1 : decide ((v9 : Int) < 0) = false)
    (c0 : ∀ w, Calls Try.prog 45 #[.int .i64 a, .int .i64 5000, .int .i64 80000] w fun e w' => e = .returned (.bool (true)) ∧ Below w.heap.size w w')
    (c1 : ∀ w, Calls Try.prog 45 #[.int .i64 b, .int .i64 5000, .int .i64 80000] w fun e w' => e = .returned (.bool (true)) ∧ Below w.heap.size w w')
    (c2 : ∀ w, Calls Try.prog 45 #[.int .i64 x, .int .i64 5000, .int .i64 80000] w fun e w' => e = .returned (.bool (true)) ∧ Below w.heap.size w w')
    (c3 : ∀ w, Calls Try.prog 45 #[.int .i64 x, .int .i64 v3, .int .i64 v4] w fun e w' => e = .returned (.bool (true)) ∧ Below w.heap.size w w')
    (c4 : ∀ w, Calls Try.prog 49 #[.int .i64 v10, .int .i64 1, .int .i64 v9] w fun e w' => e = .returned (.int .i64 v11) ∧ Below w.heap.size w w')
    (c5 : ∀ w, Calls Try.prog 50 #[.int .i64 v10, .int .i64 1, .int .i64 v9] w fun e w' => e = .returned (.int .i64 v12) ∧ Below w.heap.size w w') (w : World) :
    Calls Try.prog 17 #[.int .i64 a, .int .i64 b, .int .i64 x] w (fun e w' => e = .returned (.tuple #[.agg #[.int .i64 v11, .int .i64 v12], .int .i64 0]) ∧ Below w.heap.size w w') :=
  calls_of_ev mixed names (ρ := ⟨fun i => [a, b, x, v3, v4, v5, v6, v7, v8, v9, v10, v11, v12].getD i 0, fun _ => false, fun _ => .empty, fun _ => .nilFunc⟩) (Γ := sf_gtG Try.prog)
    ⟨(fc e0 (fc e1 (fc e2 (fc e3 (fc e4 (fc e5 (fc e6 (fc e7 fz)))))))), (fc t0 (fc t1 fz)), fz, fz, (fc c0 (fc c1 (fc c2 (fc c3 (fc c4 (fc c5 fz)))))), fz, extL_ok⟩ (lf := 100000) (d := 60) (args := [(.int .i64 (.var 0)), (.int .i64 (.var 1)), (.int .i64 (.var 2))]) (v := (.tuple [(.agg [(.int .i64 (.var 11)), (.int .i64 (.var 12))]), (.int .i64 (.lit 0))])) (H' := []) (by kernel_rfl) rfl rfl (by kernel_rfl) w
def gm_errG (P : Program) : Facts := {
  exts := extL P,
  eqs := [],
  bits := [((.icmp .neq (.var 5) (.lit 0)), true), ((.icmp .eql (.var 5) (.lit 2)), true)],
  fl := [],
  f2i := [],
  calls := [((8, []), (.bool (.lit true))), ((16, [(.int .i64 (.var 0)), (.int .i64 (.var 1)), (.int .i64 (.var 2))]), (.tuple [(.agg [(.int .i64 (.var 3)), (.int .i64 (.var 4))]), (.int .i64 (.var 5))]))] }
theorem gm_err {a b s v3 v4 v5 : Int}
    (t0 : ((v5 : Int) != 0) = true)
    (t1 : ((v5 : Int) == 2) = true)
    (c0 : ∀ w, Calls Try.prog 8 #[] w fun e w' => e = .returned (.bool (true)) ∧ Below w.heap.size w w')
    (c1 : ∀ w, Calls Try.prog 16 #[.int .i64 a, .int .i64 b, .int .i64 s] w fun e w' => e = .returned (.tuple #[.agg #[.int .i64 v3, .int .i64 v4], .int .i64 v5]) ∧ Below w.heap.size w w') (w : World) :
    Calls Try.prog 6 #[.int .i64 a, .int .i64 b, .int .i64 s] w (fun e w' => e = .returned (.bool ((((v3 : Int) == 0) && ((v4 : Int) == 0)))) ∧ Below w.heap.size w w') :=
  calls_of_ev mixed names (ρ := ⟨fun i => [a, b, s, v3, v4, v5].getD i 0, fun _ => false, fun _ => .empty, fun _ => .nilFunc⟩) (Γ := gm_errG Try.prog)
    ⟨fz, (fc t0 (fc t1 fz)), fz, fz, (fc c0 (fc c1 fz)), fz, extL_ok⟩ (lf := 100000) (d := 60) (args := [(.int .i64 (.var 0)), (.int .i64 (.var 1)), (.int .i64 (.var 2))]) (v := (.bool (.and (.icmp .eql (.var 3) (.lit 0)) (.icmp .eql (.var 4) (.lit 0))))) (H' := []) (by kernel_rfl) rfl rfl (by kernel_rfl) w
def gm_eqG (P : Program) : Facts := {
  exts := extL P,
  eqs := [((.bin (.subW .i64) (.lit 10000) (.var 2)), (.var 6)), ((.bin .minI (.var 0) (.var 1)), (.var 10)), ((.bin .maxI (.var 0) (.var 1)), (.var 11))],
  bits := [((.icmp .neq (.var 5) (.lit 0)), false), ((.icmp .neq (.var 9) (.lit 0)), false), ((.not (.and (.icmp .eql (.var 7) (.var 3)) (.icmp .eql (.var 8) (.var 4)))), false), ((.icmp .gtr (.var 4) (.var 11)), false), ((.icmp .eql (.var 0) (.var 1)), true)],
  fl := [],
  f2i := [],
  calls := [((8, []), (.bool (.lit true))), ((16, [(.int .i64 (.var 0)), (.int .i64 (.var 1)), (.int .i64 (.var 2))]), (.tuple [(.agg [(.int .i64 (.var 3)), (.int .i64 (.var 4))]), (.int .i64 (.var 5))])), ((16, [(.int .i64 (.var 1)), (.int .i64 (.var 0)), (.int .i64 (.var 6))]), (.tuple [(.agg [(.int .i64 (.var 7)), (.int .i64 (.var 8))]), (.int .i64 (.var 9))])), ((14, [(.int .i64 (.var 3)), (.int .i64 (.var 10)), (.int .i64 (.var 4))]), (.bool (.lit true)))] }
theorem gm_eq {a b s v3 v4 v5 v6 v7 v8 v9 v10 v11 : Int}
    (e0 : IntKind.i64.wrap (10000 - s) = v6)
    (e1 : (if (b : Int) < a then b else a) = v10)
    (e2 : (if (b : Int) > a then b else a) = v11)
    (t0 : ((v5 : Int) != 0) = false)
    (t1 : ((v9 : Int) != 0) = false)
    (t2 : (!(((v7 : Int) == v3) && ((v8 : Int) == v4))) = false)
    (t3 : decide ((v4 : Int) > v11) = false)
    (t4 : ((a : Int) == b) = true)
    (c0 : ∀ w, Calls Try.prog 8 #[] w fun e w' => e = .returned (.bool (true)) ∧ Below w.heap.size w w')
    (c1 : ∀ w, Calls Try.prog 16 #[.int .i64 a, .int .i64 b, .int .i64 s] w fun e w' => e = .returned (.tuple #[.agg #[.int .i64 v3, .int .i64 v4], .int .i64 v5]) ∧ Below w.heap.size w w')
    (c2 : ∀ w, Calls Try.prog 16 #[.int .i64 b, .int .i64 a, .int .i64 v6] w fun e w' => e = .returned (.tuple #[.agg #[.int .i64 v7, .int .i64 v8], .int .i64 v9]) ∧ Below w.heap.size w w')
    (c3 : ∀ w, Calls Try.prog 14 #[.int .i64 v3, .int .i64 v10, .int .i64 v4] w fun e w' => e = .returned (.bool (true)) ∧ Below w.heap.size w w') (w : World) :
    Calls Try.prog 6 #[.int .i64 a, .int .i64 b, .int .i64 s] w (fun e w' => e = .returned (.bool ((((v3 : Int) == a) && ((v4 : Int) == a)))) ∧ Below w.heap.size w w') :=
  calls_of_ev mixed names (ρ := ⟨fun i => [a, b, s, v3, v4, v5, v6, v7, v8, v9, v10, v11].getD i 0, fun _ => false, fun _ => .empty, fun _ => .nilFunc⟩) (Γ := gm_eqG Try.prog)
    ⟨(fc e0 (fc e1 (fc e2 fz))), (fc t0 (fc t1 (fc t2 (fc t3 (fc t4 fz))))), fz, fz, (fc c0 (fc c1 (fc c2 (fc c3 fz)))), fz, extL_ok⟩ (lf := 100000) (d := 60) (args := [(.int .i64 (.var 0)), (.int .i64 (.var 1)), (.int .i64 (.var 2))]) (v := (.bool (.and (.icmp .eql (.var 3) (.var 0)) (.icmp .eql (.var 4) (.var 0))))) (H' := []) (by kernel_rfl) rfl rfl (by kernel_rfl) w
def gm_neG (P : Program) : Facts := {
  exts := extL P,
  eqs := [((.bin (.subW .i64) (.lit 10000) (.var 2)), (.var 6)), ((.bin .minI (.var 0) (.var 1)), (.var 10)), ((.bin .maxI (.var 0) (.var 1)), (.var 11)), ((.bin (.subW .i64) (.var 4) (.lit 1)), (.var 15)), ((.bin .maxI (.var 15) (.var 10)), (.var 16)), ((.bin .minI (.var 17) (.var 12)), (.var 20)), ((.bin .maxI (.var 18) (.var 13)), (.var 21))],
  bits := [((.icmp .neq (.var 5) (.lit 0)), false), ((.icmp .neq (.var 9) (.lit 0)), false), ((.not (.and (.icmp .eql (.var 7) (.var 3)) (.icmp .eql (.var 8) (.var 4)))), false), ((.icmp .gtr (.var 4) (.var 11)), false), ((.icmp .eql (.var 0) (.var 1)), false), ((.icmp .neq (.var 14) (.lit 0)), false), ((.icmp .neq (.var 19) (.lit 0)), false)],
  fl := [],
  f2i := [],
  calls := [((8, []), (.bool (.lit true))), ((16, [(.int .i64 (.var 0)), (.int .i64 (.var 1)), (.int .i64 (.var 2))]), (.tuple [(.agg [(.int .i64 (.var 3)), (.int .i64 (.var 4))]), (.int .i64 (.var 5))])), ((16, [(.int .i64 (.var 1)), (.int .i64 (.var 0)), (.int .i64 (.var 6))]), (.tuple [(.agg [(.int .i64 (.var 7)), (.int .i64 (.var 8))]), (.int .i64 (.var 9))])), ((14, [(.int .i64 (.var 3)), (.int .i64 (.var 10)), (.int .i64 (.var 4))]), (.bool (.lit true))), ((17, [(.int .i64 (.var 0)), (.int .i64 (.var 1)), (.int .i64 (.var 4))]), (.tuple [(.agg [(.int .i64 (.var 12)), (.int .i64 (.var 13))]), (.int .i64 (.var 14))])), ((17, [(.int .i64 (.var 0)), (.int .i64 (.var 1)), (.int .i64 (.var 16))]), (.tuple [(.agg [(.int .i64 (.var 17)), (.int .i64 (.var 18))]), (.int .i64 (.var 19))])), ((14, [(.int .i64 (.var 2)), (.int .i64 (.var 20)), (.int .i64 (.var 21))]), (.bool (.lit true)))] }
theorem gm_ne {a b s v3 v4 v5 v6 v7 v8 v9 v10 v11 v12 v13 v14 v15 v16 v17 v18 v19 v20 v21 : Int}
    (e0 : IntKind.i64.wrap (10000 - s) = v6)
    (e1 : (if (b : Int) < a then b else a) = v10)
    (e2 : (if (b : Int) > a then b else a) = v11)
    (e3 : IntKind.i64.wrap (v4 - 1) = v15)
    (e4 : (if (v10 : Int) > v15 then v10 else v15) = v16)
    (e5 : (if (v12 : Int) < v17 then v12 else v17) = v20)
    (e6 : (if (v13 : Int) > v18 then v13 else v18) = v21)
    (t0 : ((v5 : Int) != 0) = false)
    (t1 : ((v9 : Int) != 0) = false)
    (t2 : (!(((v7 : Int) == v3) && ((v8 : Int) == v4))) = false)
    (t3 : decide ((v4 : Int) > v11) = false)
    (t4 : ((a : Int) == b) = false)
    (t5 : ((v14 : Int) != 0) = false)
    (t6 : ((v19 : Int) != 0) = false)
    (c0 : ∀ w, Calls Try.prog 8 #[] w fun e w' => e = .returned (.bool (true)) ∧ Below w.heap.size w w')
    (c1 : ∀ w, Calls Try.prog 16 #[.int .i64 a, .int .i64 b, .int .i64 s] w fun e w' => e = .returned (.tuple #[.agg #[.int .i64 v3, .int .i64 v4], .int .i64 v5]) ∧ Below w.heap.size w w')
    (c2 : ∀ w, Calls Try.prog 16 #[.int .i64 b, .int .i64 a, .int .i64 v6] w fun e w' => e = .returned (.tuple #[.agg #[.int .i64 v7, .int .i64 v8], .int .i64 v9]) ∧ Below w.heap.size w w')
    (c3 : ∀ w, Calls Try.prog 14 #[.int .i64 v3, .int .i64 v10, .int .i64 v4] w fun e w' => e = .returned (.bool (true)) ∧ Below w.heap.size w w')
    (c4 : ∀ w, Calls Try.prog 17 #[.int .i64 a, .int .i64 b, .int .i64 v4] w fun e w' => e = .returned (.tuple #[.agg #[.int .i64 v12, .int .i64 v13], .int .i64 v14]) ∧ Below w.heap.size w w')
    (c5 : ∀ w, Calls Try.prog 17 #[.int .i64 a, .int .i64 b, .int .i64 v16] w fun e w' => e = .returned (.tuple #[.agg #[.int .i64 v17, .int .i64 v18], .int .i64 v19]) ∧ Below w.heap.size w w')
    (c6 : ∀ w, Calls Try.prog 14 #[.int .i64 s, .int .i64 v20, .int .i64 v21] w fun e w' => e = .returned (.bool (true)) ∧ Below w.heap.size w w') (w : World) :
    Calls Try.prog 6 #[.int .i64 a, .int .i64 b, .int .i64 s] w (fun e w' => e = .returned (.bool (true)) ∧ Below w.heap.size w w') :=
  calls_of_ev mixed names (ρ := ⟨fun i => [a, b, s, v3, v4, v5, v6, v7, v8, v9, v10, v11, v12, v13, v14, v15, v16, v17, v18, v19, v20, v21].getD i 0, fun _ => false, fun _ => .empty, fun _ => .nilFunc⟩) (Γ := gm_neG Try.prog)
    ⟨(fc e0 (fc e1 (fc e2 (fc e3 (fc e4 (fc e5 (fc e6 fz))))))), (fc t0 (fc t1 (fc t2 (fc t3 (fc t4 (fc t5 (fc t6 fz))))))), fz, fz, (fc c0 (fc c1 (fc c2 (fc c3 (fc c4 (fc c5 (fc c6 fz))))))), fz, extL_ok⟩ (lf := 100000) (d := 60) (args := [(.int .i64 (.var 0)), (.int .i64 (.var 1)), (.int .i64 (.var 2))]) (v := (.bool (.lit true))) (H' := []) (by kernel_rfl) rfl rfl (by kernel_rfl) w
end Go.Proofs.Ytpgojkoldhpbkaa.Ev
