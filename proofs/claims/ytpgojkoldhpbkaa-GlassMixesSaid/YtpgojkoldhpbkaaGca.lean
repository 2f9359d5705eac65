/- The reference's mixtures: its loops, by the symbolic machine. -/
import Derived.Test.YtpgojkoldhpbkaaEvq
import Derived.Test.YtpgojkoldhpbkaaEvx
namespace Go.Proofs.Ytpgojkoldhpbkaa.Ev
set_option linter.unusedSimpArgs false
open Go Go.RowKit
set_option maxRecDepth 100000
def CmpT : List SV := [(.int .i64 (.var 4)), (.int .i64 (.var 5)), (.int .i64 (.var 6)), (.int .i64 (.var 7)), (.any 4), (.any 5), (.any 6), (.any 7), (.int .i64 (.lit 0)), (.any 9), (.any 10), (.any 11), (.any 12), (.any 13), (.any 14), (.any 15), (.any 16), (.any 17), (.any 18), (.any 19), (.any 20), (.any 21), (.any 22), (.any 23), (.any 24), (.any 25), (.any 26), (.any 27), (.any 28), (.any 29), (.any 30), (.any 31), (.any 32), (.any 33), (.any 34), (.any 35), (.any 36), (.any 37), (.any 38), (.any 39), (.any 40), (.any 41), (.any 42), (.any 43), (.any 44), (.any 45), (.any 46)]
def CmpH : Hp := []
def CmpR : Res := (.ret, [(.any 0), (.any 1), (.any 2), (.any 3), (.any 4), (.any 5), (.any 6), (.any 7), (.int .i64 (.var 4)), (.any 9), (.any 10), (.any 11), (.any 12), (.any 13), (.any 14), (.any 15), (.any 16), (.any 17), (.any 18), (.any 19), (.any 20), (.any 21), (.any 22), (.any 23), (.any 24), (.any 25), (.any 26), (.any 27), (.any 28), (.any 29), (.any 30), (.any 31), (.any 32), (.any 33), (.any 34), (.any 35), (.any 36), (.any 37), (.any 38), (.any 39), (.any 40), (.any 41), (.any 42), (.any 43), (.any 44), (.any 45), (.any 46)], [], [])
def CmpL : LoopF := ⟨54, [0, 1], [(.int .i64 (.var 0)), (.int .i64 (.var 1)), (.int .i64 (.var 2)), (.int .i64 (.var 3)), (.tuple []), (.tuple []), (.tuple []), (.tuple []), (.int .i64 (.lit 0)), (.tuple []), (.tuple []), (.tuple []), (.tuple []), (.tuple []), (.tuple []), (.tuple []), (.tuple []), (.tuple []), (.tuple []), (.tuple []), (.tuple []), (.tuple []), (.tuple []), (.tuple []), (.tuple []), (.tuple []), (.tuple []), (.tuple []), (.tuple []), (.tuple []), (.tuple []), (.tuple []), (.tuple []), (.tuple []), (.tuple []), (.tuple []), (.tuple []), (.tuple []), (.tuple []), (.tuple []), (.tuple []), (.tuple []), (.tuple []), (.tuple []), (.tuple []), (.tuple []), (.tuple [])], [], CmpR⟩
theorem Cmp_in {n d m k : Int} {rest rest' : List Int} : All (lenv (n :: d :: m :: k :: rest)) (lenv (n :: d :: m :: k :: n :: d :: m :: k :: rest')) [(.num (.var 0) (.var 4)), (.num (.var 1) (.var 5)), (.num (.var 2) (.var 6)), (.num (.var 3) (.var 7))] := (fc rfl (fc rfl (fc rfl (fc rfl fz))))
def CmpG0 (P : Program) : Facts := {
  exts := extL P,
  eqs := [((.bin (.quoW .i64) (.var 4) (.var 5)), (.var 8)), ((.bin .remK (.var 4) (.var 5)), (.var 9)), ((.bin (.quoW .i64) (.var 6) (.var 7)), (.var 10)), ((.bin .remK (.var 6) (.var 7)), (.var 11)), ((.bin (.mulW .i64) (.var 8) (.var 5)), (.var 12)), ((.bin (.subW .i64) (.var 4) (.var 12)), (.var 13)), ((.bin (.mulW .i64) (.var 10) (.var 7)), (.var 14)), ((.bin (.subW .i64) (.var 6) (.var 14)), (.var 15))],
  bits := [((.icmp .eql (.var 5) (.lit 0)), false), ((.icmp .lss (.var 9) (.lit 0)), false), ((.icmp .eql (.var 7) (.lit 0)), false), ((.icmp .lss (.var 11) (.lit 0)), false), ((.icmp .lss (.var 8) (.var 10)), false), ((.icmp .gtr (.var 8) (.var 10)), false), ((.icmp .eql (.var 13) (.lit 0)), false), ((.icmp .eql (.var 15) (.lit 0)), false)],
  fl := [],
  f2i := [],
  calls := [] }
theorem Cmp_0 {n d m k x0 x1 x2 x3 u0 u1 u2 u3 u4 u5 u6 u7 : Int} {rest rest' : List Int}
    (e0 : IntKind.i64.wrap ((x0 : Int).tdiv x1) = u0)
    (e1 : (x0 : Int).tmod x1 = u1)
    (e2 : IntKind.i64.wrap ((x2 : Int).tdiv x3) = u2)
    (e3 : (x2 : Int).tmod x3 = u3)
    (e4 : IntKind.i64.wrap (u0 * x1) = u4)
    (e5 : IntKind.i64.wrap (x0 - u4) = u5)
    (e6 : IntKind.i64.wrap (u2 * x3) = u6)
    (e7 : IntKind.i64.wrap (x2 - u6) = u7)
    (t0 : ((x1 : Int) == 0) = false)
    (t1 : decide ((u1 : Int) < 0) = false)
    (t2 : ((x3 : Int) == 0) = false)
    (t3 : decide ((u3 : Int) < 0) = false)
    (t4 : decide ((u0 : Int) < u2) = false)
    (t5 : decide ((u0 : Int) > u2) = false)
    (t6 : ((u5 : Int) == 0) = false)
    (t7 : ((u7 : Int) == 0) = false) : ∀ x, codeAt Try.prog 54 [0, 1] = some (.loop x) → Leads2 Try.prog (lenv (n :: d :: m :: k :: x0 :: x1 :: x2 :: x3 :: rest)) (lenv (n :: d :: m :: k :: x3 :: u7 :: x1 :: u5 :: rest')) x CmpT CmpH (.normal, CmpT, CmpH, []) :=
  step2_ok mixed names (ρ1 := lenv [n, d, m, k, x0, x1, x2, x3, u0, u1, u2, u3, u4, u5, u6, u7]) (Γ := CmpG0 Try.prog) ⟨(fc e0 (fc e1 (fc e2 (fc e3 (fc e4 (fc e5 (fc e6 (fc e7 fz)))))))), (fc t0 (fc t1 (fc t2 (fc t3 (fc t4 (fc t5 (fc t6 (fc t7 fz)))))))), fz, fz, fz, fz, extL_ok⟩ (Λ := []) (fun _ h => by cases h) (lf := 100000) (d := 60) (l0 := [(.num (.var 4) (.var 4)), (.num (.var 5) (.var 5)), (.num (.var 6) (.var 6)), (.num (.var 7) (.var 7))]) (by kernel_rfl) (fc rfl (fc rfl (fc rfl (fc rfl fz)))) (l := [(.num (.var 7) (.var 4)), (.num (.var 15) (.var 5)), (.num (.var 5) (.var 6)), (.num (.var 13) (.var 7))]) (by kernel_rfl) (fc rfl (fc rfl (fc rfl (fc rfl fz))))
def CmpG1 (P : Program) : Facts := {
  exts := extL P,
  eqs := [((.bin (.quoW .i64) (.var 4) (.var 5)), (.var 8)), ((.bin .remK (.var 4) (.var 5)), (.var 9)), ((.bin (.quoW .i64) (.var 6) (.var 7)), (.var 10)), ((.bin .remK (.var 6) (.var 7)), (.var 11))],
  bits := [((.icmp .eql (.var 5) (.lit 0)), false), ((.icmp .lss (.var 9) (.lit 0)), false), ((.icmp .eql (.var 7) (.lit 0)), false), ((.icmp .lss (.var 11) (.lit 0)), false), ((.icmp .lss (.var 8) (.var 10)), true)],
  fl := [],
  f2i := [],
  calls := [] }
theorem Cmp_1 {n d m k x0 x1 x2 x3 u0 u1 u2 u3 : Int} {rest rest' : List Int}
    (e0 : IntKind.i64.wrap ((x0 : Int).tdiv x1) = u0)
    (e1 : (x0 : Int).tmod x1 = u1)
    (e2 : IntKind.i64.wrap ((x2 : Int).tdiv x3) = u2)
    (e3 : (x2 : Int).tmod x3 = u3)
    (t0 : ((x1 : Int) == 0) = false)
    (t1 : decide ((u1 : Int) < 0) = false)
    (t2 : ((x3 : Int) == 0) = false)
    (t3 : decide ((u3 : Int) < 0) = false)
    (t4 : decide ((u0 : Int) < u2) = true) : ∀ x, codeAt Try.prog 54 [0, 1] = some (.loop x) → Leads2 Try.prog (lenv (n :: d :: m :: k :: x0 :: x1 :: x2 :: x3 :: rest)) (lenv (n :: d :: m :: k :: (-1) :: rest')) x CmpT CmpH CmpR :=
  step2_ok mixed names (ρ1 := lenv [n, d, m, k, x0, x1, x2, x3, u0, u1, u2, u3]) (Γ := CmpG1 Try.prog) ⟨(fc e0 (fc e1 (fc e2 (fc e3 fz)))), (fc t0 (fc t1 (fc t2 (fc t3 (fc t4 fz))))), fz, fz, fz, fz, extL_ok⟩ (Λ := []) (fun _ h => by cases h) (lf := 100000) (d := 60) (l0 := [(.num (.var 4) (.var 4)), (.num (.var 5) (.var 5)), (.num (.var 6) (.var 6)), (.num (.var 7) (.var 7))]) (by kernel_rfl) (fc rfl (fc rfl (fc rfl (fc rfl fz)))) (l := [(.num (.lit (-1)) (.var 4))]) (by kernel_rfl) (fc rfl fz)
def CmpG2 (P : Program) : Facts := {
  exts := extL P,
  eqs := [((.bin (.quoW .i64) (.var 4) (.var 5)), (.var 8)), ((.bin .remK (.var 4) (.var 5)), (.var 9)), ((.bin (.quoW .i64) (.var 6) (.var 7)), (.var 10)), ((.bin .remK (.var 6) (.var 7)), (.var 11)), ((.bin (.mulW .i64) (.var 8) (.var 5)), (.var 12)), ((.bin (.subW .i64) (.var 4) (.var 12)), (.var 13)), ((.bin (.mulW .i64) (.var 10) (.var 7)), (.var 14)), ((.bin (.subW .i64) (.var 6) (.var 14)), (.var 15))],
  bits := [((.icmp .eql (.var 5) (.lit 0)), false), ((.icmp .lss (.var 9) (.lit 0)), false), ((.icmp .eql (.var 7) (.lit 0)), false), ((.icmp .lss (.var 11) (.lit 0)), false), ((.icmp .lss (.var 8) (.var 10)), false), ((.icmp .gtr (.var 8) (.var 10)), false), ((.icmp .eql (.var 13) (.lit 0)), true), ((.icmp .eql (.var 15) (.lit 0)), true)],
  fl := [],
  f2i := [],
  calls := [] }
theorem Cmp_2 {n d m k x0 x1 x2 x3 u0 u1 u2 u3 u4 u5 u6 u7 : Int} {rest rest' : List Int}
    (e0 : IntKind.i64.wrap ((x0 : Int).tdiv x1) = u0)
    (e1 : (x0 : Int).tmod x1 = u1)
    (e2 : IntKind.i64.wrap ((x2 : Int).tdiv x3) = u2)
    (e3 : (x2 : Int).tmod x3 = u3)
    (e4 : IntKind.i64.wrap (u0 * x1) = u4)
    (e5 : IntKind.i64.wrap (x0 - u4) = u5)
    (e6 : IntKind.i64.wrap (u2 * x3) = u6)
    (e7 : IntKind.i64.wrap (x2 - u6) = u7)
    (t0 : ((x1 : Int) == 0) = false)
    (t1 : decide ((u1 : Int) < 0) = false)
    (t2 : ((x3 : Int) == 0) = false)
    (t3 : decide ((u3 : Int) < 0) = false)
    (t4 : decide ((u0 : Int) < u2) = false)
    (t5 : decide ((u0 : Int) > u2) = false)
    (t6 : ((u5 : Int) == 0) = true)
    (t7 : ((u7 : Int) == 0) = true) : ∀ x, codeAt Try.prog 54 [0, 1] = some (.loop x) → Leads2 Try.prog (lenv (n :: d :: m :: k :: x0 :: x1 :: x2 :: x3 :: rest)) (lenv (n :: d :: m :: k :: 0 :: rest')) x CmpT CmpH CmpR :=
  step2_ok mixed names (ρ1 := lenv [n, d, m, k, x0, x1, x2, x3, u0, u1, u2, u3, u4, u5, u6, u7]) (Γ := CmpG2 Try.prog) ⟨(fc e0 (fc e1 (fc e2 (fc e3 (fc e4 (fc e5 (fc e6 (fc e7 fz)))))))), (fc t0 (fc t1 (fc t2 (fc t3 (fc t4 (fc t5 (fc t6 (fc t7 fz)))))))), fz, fz, fz, fz, extL_ok⟩ (Λ := []) (fun _ h => by cases h) (lf := 100000) (d := 60) (l0 := [(.num (.var 4) (.var 4)), (.num (.var 5) (.var 5)), (.num (.var 6) (.var 6)), (.num (.var 7) (.var 7))]) (by kernel_rfl) (fc rfl (fc rfl (fc rfl (fc rfl fz)))) (l := [(.num (.lit 0) (.var 4))]) (by kernel_rfl) (fc rfl fz)
def CmpG3 (P : Program) : Facts := {
  exts := extL P,
  eqs := [((.bin (.quoW .i64) (.var 4) (.var 5)), (.var 8)), ((.bin .remK (.var 4) (.var 5)), (.var 9)), ((.bin (.quoW .i64) (.var 6) (.var 7)), (.var 10)), ((.bin .remK (.var 6) (.var 7)), (.var 11)), ((.bin (.mulW .i64) (.var 8) (.var 5)), (.var 12)), ((.bin (.subW .i64) (.var 4) (.var 12)), (.var 13)), ((.bin (.mulW .i64) (.var 10) (.var 7)), (.var 14)), ((.bin (.subW .i64) (.var 6) (.var 14)), (.var 15))],
  bits := [((.icmp .eql (.var 5) (.lit 0)), false), ((.icmp .lss (.var 9) (.lit 0)), false), ((.icmp .eql (.var 7) (.lit 0)), false), ((.icmp .lss (.var 11) (.lit 0)), false), ((.icmp .lss (.var 8) (.var 10)), false), ((.icmp .gtr (.var 8) (.var 10)), false), ((.icmp .eql (.var 13) (.lit 0)), true), ((.icmp .eql (.var 15) (.lit 0)), false)],
  fl := [],
  f2i := [],
  calls := [] }
theorem Cmp_3 {n d m k x0 x1 x2 x3 u0 u1 u2 u3 u4 u5 u6 u7 : Int} {rest rest' : List Int}
    (e0 : IntKind.i64.wrap ((x0 : Int).tdiv x1) = u0)
    (e1 : (x0 : Int).tmod x1 = u1)
    (e2 : IntKind.i64.wrap ((x2 : Int).tdiv x3) = u2)
    (e3 : (x2 : Int).tmod x3 = u3)
    (e4 : IntKind.i64.wrap (u0 * x1) = u4)
    (e5 : IntKind.i64.wrap (x0 - u4) = u5)
    (e6 : IntKind.i64.wrap (u2 * x3) = u6)
    (e7 : IntKind.i64.wrap (x2 - u6) = u7)
    (t0 : ((x1 : Int) == 0) = false)
    (t1 : decide ((u1 : Int) < 0) = false)
    (t2 : ((x3 : Int) == 0) = false)
    (t3 : decide ((u3 : Int) < 0) = false)
    (t4 : decide ((u0 : Int) < u2) = false)
    (t5 : decide ((u0 : Int) > u2) = false)
    (t6 : ((u5 : Int) == 0) = true)
    (t7 : ((u7 : Int) == 0) = false) : ∀ x, codeAt Try.prog 54 [0, 1] = some (.loop x) → Leads2 Try.prog (lenv (n :: d :: m :: k :: x0 :: x1 :: x2 :: x3 :: rest)) (lenv (n :: d :: m :: k :: (-1) :: rest')) x CmpT CmpH CmpR :=
  step2_ok mixed names (ρ1 := lenv [n, d, m, k, x0, x1, x2, x3, u0, u1, u2, u3, u4, u5, u6, u7]) (Γ := CmpG3 Try.prog) ⟨(fc e0 (fc e1 (fc e2 (fc e3 (fc e4 (fc e5 (fc e6 (fc e7 fz)))))))), (fc t0 (fc t1 (fc t2 (fc t3 (fc t4 (fc t5 (fc t6 (fc t7 fz)))))))), fz, fz, fz, fz, extL_ok⟩ (Λ := []) (fun _ h => by cases h) (lf := 100000) (d := 60) (l0 := [(.num (.var 4) (.var 4)), (.num (.var 5) (.var 5)), (.num (.var 6) (.var 6)), (.num (.var 7) (.var 7))]) (by kernel_rfl) (fc rfl (fc rfl (fc rfl (fc rfl fz)))) (l := [(.num (.lit (-1)) (.var 4))]) (by kernel_rfl) (fc rfl fz)
def CmpG4 (P : Program) : Facts := {
  exts := extL P,
  eqs := [((.bin (.quoW .i64) (.var 4) (.var 5)), (.var 8)), ((.bin .remK (.var 4) (.var 5)), (.var 9)), ((.bin (.quoW .i64) (.var 6) (.var 7)), (.var 10)), ((.bin .remK (.var 6) (.var 7)), (.var 11)), ((.bin (.mulW .i64) (.var 8) (.var 5)), (.var 12)), ((.bin (.subW .i64) (.var 4) (.var 12)), (.var 13)), ((.bin (.mulW .i64) (.var 10) (.var 7)), (.var 14)), ((.bin (.subW .i64) (.var 6) (.var 14)), (.var 15))],
  bits := [((.icmp .eql (.var 5) (.lit 0)), false), ((.icmp .lss (.var 9) (.lit 0)), false), ((.icmp .eql (.var 7) (.lit 0)), false), ((.icmp .lss (.var 11) (.lit 0)), false), ((.icmp .lss (.var 8) (.var 10)), false), ((.icmp .gtr (.var 8) (.var 10)), false), ((.icmp .eql (.var 13) (.lit 0)), false), ((.icmp .eql (.var 15) (.lit 0)), true)],
  fl := [],
  f2i := [],
  calls := [] }
theorem Cmp_4 {n d m k x0 x1 x2 x3 u0 u1 u2 u3 u4 u5 u6 u7 : Int} {rest rest' : List Int}
    (e0 : IntKind.i64.wrap ((x0 : Int).tdiv x1) = u0)
    (e1 : (x0 : Int).tmod x1 = u1)
    (e2 : IntKind.i64.wrap ((x2 : Int).tdiv x3) = u2)
    (e3 : (x2 : Int).tmod x3 = u3)
    (e4 : IntKind.i64.wrap (u0 * x1) = u4)
    (e5 : IntKind.i64.wrap (x0 - u4) = u5)
    (e6 : IntKind.i64.wrap (u2 * x3) = u6)
    (e7 : IntKind.i64.wrap (x2 - u6) = u7)
    (t0 : ((x1 : Int) == 0) = false)
    (t1 : decide ((u1 : Int) < 0) = false)
    (t2 : ((x3 : Int) == 0) = false)
    (t3 : decide ((u3 : Int) < 0) = false)
    (t4 : decide ((u0 : Int) < u2) = false)
    (t5 : decide ((u0 : Int) > u2) = false)
    (t6 : ((u5 : Int) == 0) = false)
    (t7 : ((u7 : Int) == 0) = true) : ∀ x, codeAt Try.prog 54 [0, 1] = some (.loop x) → Leads2 Try.prog (lenv (n :: d :: m :: k :: x0 :: x1 :: x2 :: x3 :: rest)) (lenv (n :: d :: m :: k :: 1 :: rest')) x CmpT CmpH CmpR :=
  step2_ok mixed names (ρ1 := lenv [n, d, m, k, x0, x1, x2, x3, u0, u1, u2, u3, u4, u5, u6, u7]) (Γ := CmpG4 Try.prog) ⟨(fc e0 (fc e1 (fc e2 (fc e3 (fc e4 (fc e5 (fc e6 (fc e7 fz)))))))), (fc t0 (fc t1 (fc t2 (fc t3 (fc t4 (fc t5 (fc t6 (fc t7 fz)))))))), fz, fz, fz, fz, extL_ok⟩ (Λ := []) (fun _ h => by cases h) (lf := 100000) (d := 60) (l0 := [(.num (.var 4) (.var 4)), (.num (.var 5) (.var 5)), (.num (.var 6) (.var 6)), (.num (.var 7) (.var 7))]) (by kernel_rfl) (fc rfl (fc rfl (fc rfl (fc rfl fz)))) (l := [(.num (.lit 1) (.var 4))]) (by kernel_rfl) (fc rfl fz)
def CmpG5 (P : Program) : Facts := {
  exts := extL P,
  eqs := [((.bin (.quoW .i64) (.var 4) (.var 5)), (.var 8)), ((.bin .remK (.var 4) (.var 5)), (.var 9)), ((.bin (.quoW .i64) (.var 6) (.var 7)), (.var 10)), ((.bin .remK (.var 6) (.var 7)), (.var 11))],
  bits := [((.icmp .eql (.var 5) (.lit 0)), false), ((.icmp .lss (.var 9) (.lit 0)), false), ((.icmp .eql (.var 7) (.lit 0)), false), ((.icmp .lss (.var 11) (.lit 0)), false), ((.icmp .lss (.var 8) (.var 10)), false), ((.icmp .gtr (.var 8) (.var 10)), true)],
  fl := [],
  f2i := [],
  calls := [] }
theorem Cmp_5 {n d m k x0 x1 x2 x3 u0 u1 u2 u3 : Int} {rest rest' : List Int}
    (e0 : IntKind.i64.wrap ((x0 : Int).tdiv x1) = u0)
    (e1 : (x0 : Int).tmod x1 = u1)
    (e2 : IntKind.i64.wrap ((x2 : Int).tdiv x3) = u2)
    (e3 : (x2 : Int).tmod x3 = u3)
    (t0 : ((x1 : Int) == 0) = false)
    (t1 : decide ((u1 : Int) < 0) = false)
    (t2 : ((x3 : Int) == 0) = false)
    (t3 : decide ((u3 : Int) < 0) = false)
    (t4 : decide ((u0 : Int) < u2) = false)
    (t5 : decide ((u0 : Int) > u2) = true) : ∀ x, codeAt Try.prog 54 [0, 1] = some (.loop x) → Leads2 Try.prog (lenv (n :: d :: m :: k :: x0 :: x1 :: x2 :: x3 :: rest)) (lenv (n :: d :: m :: k :: 1 :: rest')) x CmpT CmpH CmpR :=
  step2_ok mixed names (ρ1 := lenv [n, d, m, k, x0, x1, x2, x3, u0, u1, u2, u3]) (Γ := CmpG5 Try.prog) ⟨(fc e0 (fc e1 (fc e2 (fc e3 fz)))), (fc t0 (fc t1 (fc t2 (fc t3 (fc t4 (fc t5 fz)))))), fz, fz, fz, fz, extL_ok⟩ (Λ := []) (fun _ h => by cases h) (lf := 100000) (d := 60) (l0 := [(.num (.var 4) (.var 4)), (.num (.var 5) (.var 5)), (.num (.var 6) (.var 6)), (.num (.var 7) (.var 7))]) (by kernel_rfl) (fc rfl (fc rfl (fc rfl (fc rfl fz)))) (l := [(.num (.lit 1) (.var 4))]) (by kernel_rfl) (fc rfl fz)
def CmpG (P : Program) : Facts := {
  exts := extL P,
  eqs := [],
  bits := [],
  fl := [],
  f2i := [],
  calls := [] }
theorem Cmp {n d m k r0 : Int}
    (hl : CmpL.Ok Try.prog (lenv [n, d, m, k, r0])) (w : World) :
    Calls Try.prog 54 #[.int .i64 n, .int .i64 d, .int .i64 m, .int .i64 k] w (fun e w' => e = .returned (.int .i64 r0) ∧ Below w.heap.size w w') :=
  calls_of_evL mixed names (ρ := lenv [n, d, m, k, r0]) (Γ := CmpG Try.prog) ⟨fz, fz, fz, fz, fz, fz, extL_ok⟩ (Λ := [CmpL]) (fc hl fz) (lf := 100000) (d := 60) (args := [(.int .i64 (.var 0)), (.int .i64 (.var 1)), (.int .i64 (.var 2)), (.int .i64 (.var 3))]) (v := (.int .i64 (.var 4))) (H' := []) (by kernel_rfl) rfl rfl (by kernel_rfl) w
def RmbT : List SV := [(.int .i64 (.var 0)), (.int .i64 (.var 1)), (.any 2), (.any 3), (.any 4), (.any 5), (.ptr (some ⟨0, 0, none⟩)), (.any 7), (.int .i64 (.var 8)), (.int .i64 (.var 13)), (.int .i64 (.var 14)), (.int .i64 (.var 15)), (.any 12), (.any 13), (.any 14), (.any 15), (.any 16), (.any 17), (.any 18), (.any 19), (.any 20), (.any 21), (.any 22), (.any 23), (.any 24), (.any 25), (.any 26), (.any 27), (.any 28), (.any 29), (.any 30), (.any 31), (.any 32), (.any 33), (.any 34), (.any 35), (.any 36), (.any 37), (.any 38), (.any 39), (.any 40), (.any 41), (.any 42), (.any 43), (.any 44), (.any 45), (.any 46), (.any 47), (.any 48), (.any 49), (.any 50), (.any 51), (.any 52), (.any 53), (.any 54), (.any 55), (.any 56), (.any 57), (.any 58), (.any 59), (.any 60), (.any 61), (.any 62), (.any 63), (.any 64), (.any 65), (.any 66), (.any 67), (.any 68), (.any 69), (.any 70), (.any 71), (.any 72), (.any 73), (.any 74), (.any 75), (.any 76), (.any 77), (.any 78), (.any 79), (.any 80), (.any 81), (.any 82), (.any 83), (.any 84), (.any 85), (.any 86), (.any 87), (.any 88)]
def RmbH : Hp := [(some ⟨[(.int .i64 (.lit 0)), (.int .i64 (.lit 0))], 36, false, false⟩)]
def RmbR : Res := ((.exit 0), [(.any 0), (.any 1), (.any 2), (.any 3), (.any 4), (.any 5), (.ptr (some ⟨0, 0, none⟩)), (.any 7), (.int .i64 (.var 8)), (.any 9), (.int .i64 (.var 14)), (.any 11), (.any 12), (.any 13), (.any 14), (.any 15), (.any 16), (.any 17), (.any 18), (.any 19), (.any 20), (.any 21), (.any 22), (.any 23), (.any 24), (.any 25), (.any 26), (.any 27), (.any 28), (.any 29), (.any 30), (.any 31), (.any 32), (.any 33), (.any 34), (.any 35), (.any 36), (.any 37), (.any 38), (.any 39), (.any 40), (.any 41), (.any 42), (.any 43), (.any 44), (.any 45), (.any 46), (.any 47), (.any 48), (.any 49), (.any 50), (.any 51), (.any 52), (.any 53), (.any 54), (.any 55), (.any 56), (.any 57), (.any 58), (.any 59), (.any 60), (.any 61), (.any 62), (.any 63), (.any 64), (.any 65), (.any 66), (.any 67), (.any 68), (.any 69), (.any 70), (.any 71), (.any 72), (.any 73), (.any 74), (.any 75), (.any 76), (.any 77), (.any 78), (.any 79), (.any 80), (.any 81), (.any 82), (.any 83), (.any 84), (.any 85), (.any 86), (.any 87), (.any 88)], [(some ⟨[(.int .i64 (.lit 0)), (.int .i64 (.lit 0))], 36, false, false⟩)], [])
def RmbL : LoopF := ⟨18, [0, 0, 1, 1, 1, 1, 1], [(.int .i64 (.var 0)), (.int .i64 (.var 1)), (.int .i64 (.var 2)), (.tuple []), (.tuple []), (.tuple []), (.ptr (some ⟨0, 0, none⟩)), (.int .i64 (.lit 0)), (.int .i64 (.var 8)), (.int .i64 (.var 13)), (.int .i64 (.lit 0)), (.int .i64 (.lit 80001)), (.tuple []), (.tuple []), (.int .i64 (.var 0)), (.bool (.lit true)), (.bool (.lit false)), (.bool (.lit false)), (.int .i64 (.var 1)), (.bool (.lit true)), (.bool (.lit false)), (.bool (.lit false)), (.bool (.lit false)), (.int .i64 (.var 2)), (.bool (.lit true)), (.bool (.lit false)), (.bool (.lit false)), (.tuple []), (.int .i64 (.var 2)), (.int .i64 (.var 0)), (.int .i64 (.var 3)), (.int .i64 (.var 0)), (.int .i64 (.var 4)), (.int .i64 (.var 2)), (.int .i64 (.var 5)), (.int .i64 (.var 1)), (.int .i64 (.var 6)), (.int .i64 (.var 1)), (.int .i64 (.var 7)), (.int .i64 (.var 8)), (.int .i64 (.var 2)), (.int .i64 (.var 1)), (.int .i64 (.var 9)), (.int .i64 (.var 1)), (.int .i64 (.var 10)), (.int .i64 (.var 2)), (.int .i64 (.var 5)), (.int .i64 (.var 0)), (.int .i64 (.var 11)), (.int .i64 (.var 0)), (.int .i64 (.var 12)), (.int .i64 (.var 13)), (.tuple []), (.tuple []), (.tuple []), (.tuple []), (.tuple []), (.tuple []), (.tuple []), (.tuple []), (.tuple []), (.tuple []), (.tuple []), (.tuple []), (.tuple []), (.tuple []), (.tuple []), (.tuple []), (.tuple []), (.tuple []), (.tuple []), (.tuple []), (.tuple []), (.tuple []), (.tuple []), (.tuple []), (.tuple []), (.tuple []), (.tuple []), (.tuple []), (.tuple []), (.tuple []), (.tuple []), (.tuple []), (.tuple []), (.tuple []), (.tuple []), (.tuple []), (.tuple [])], [(some ⟨[(.int .i64 (.lit 0)), (.int .i64 (.lit 0))], 36, false, false⟩)], RmbR⟩
theorem Rmb_in {a b share v3 v4 v5 v6 v7 v8 v9 v10 v11 v12 v13 : Int} {rest rest' : List Int} : All (lenv (a :: b :: share :: v3 :: v4 :: v5 :: v6 :: v7 :: v8 :: v9 :: v10 :: v11 :: v12 :: v13 :: rest)) (lenv (a :: b :: share :: v3 :: v4 :: v5 :: v6 :: v7 :: v8 :: v9 :: v10 :: v11 :: v12 :: v13 :: 0 :: 80001 :: rest')) [(.num (.var 0) (.var 0)), (.num (.var 1) (.var 1)), (.num (.var 8) (.var 8)), (.num (.var 13) (.var 13)), (.num (.lit 0) (.var 14)), (.num (.lit 80001) (.var 15))] := (fc rfl (fc rfl (fc rfl (fc rfl (fc rfl (fc rfl fz))))))
def RmbG0 (P : Program) : Facts := {
  exts := extL P,
  eqs := [((.bin (.subW .i64) (.var 15) (.var 14)), (.var 16)), ((.bin (.addW .i64) (.var 14) (.var 15)), (.var 17)), ((.bin (.quoW .i64) (.var 17) (.lit 2)), (.var 18)), ((.bin (.mulW .i64) (.var 18) (.var 18)), (.var 19)), ((.bin (.mulW .i64) (.var 1) (.var 1)), (.var 20)), ((.bin (.mulW .i64) (.lit 10000) (.var 0)), (.var 21)), ((.bin (.mulW .i64) (.var 21) (.var 0)), (.var 22))],
  bits := [((.icmp .gtr (.var 16) (.lit 1)), true), ((.icmp .leq (.var 23) (.lit 0)), false)],
  fl := [],
  f2i := [],
  calls := [((54, [(.int .i64 (.var 19)), (.int .i64 (.var 20)), (.int .i64 (.var 22)), (.int .i64 (.var 13))]), (.int .i64 (.var 23)))] }
theorem Rmb_0 {a b share v3 v4 v5 v6 v7 v8 v9 v10 v11 v12 v13 x0 x1 u0 u1 u2 u3 u4 u5 u6 u7 : Int} {rest rest' : List Int}
    (e0 : IntKind.i64.wrap (x1 - x0) = u0)
    (e1 : IntKind.i64.wrap (x0 + x1) = u1)
    (e2 : IntKind.i64.wrap ((u1 : Int).tdiv 2) = u2)
    (e3 : IntKind.i64.wrap (u2 * u2) = u3)
    (e4 : IntKind.i64.wrap (b * b) = u4)
    (e5 : IntKind.i64.wrap (10000 * a) = u5)
    (e6 : IntKind.i64.wrap (u5 * a) = u6)
    (t0 : decide ((u0 : Int) > 1) = true)
    (t1 : decide ((u7 : Int) ≤ 0) = false)
    (c0 : ∀ w, Calls Try.prog 54 #[.int .i64 u3, .int .i64 u4, .int .i64 u6, .int .i64 v13] w fun e w' => e = .returned (.int .i64 u7) ∧ Below w.heap.size w w') : ∀ x, codeAt Try.prog 18 [0, 0, 1, 1, 1, 1, 1] = some (.loop x) → Leads2 Try.prog (lenv (a :: b :: share :: v3 :: v4 :: v5 :: v6 :: v7 :: v8 :: v9 :: v10 :: v11 :: v12 :: v13 :: x0 :: x1 :: rest)) (lenv (a :: b :: share :: v3 :: v4 :: v5 :: v6 :: v7 :: v8 :: v9 :: v10 :: v11 :: v12 :: v13 :: x0 :: u2 :: rest')) x RmbT RmbH (.normal, RmbT, RmbH, []) :=
  step2_ok mixed names (ρ1 := lenv [a, b, share, v3, v4, v5, v6, v7, v8, v9, v10, v11, v12, v13, x0, x1, u0, u1, u2, u3, u4, u5, u6, u7]) (Γ := RmbG0 Try.prog) ⟨(fc e0 (fc e1 (fc e2 (fc e3 (fc e4 (fc e5 (fc e6 fz))))))), (fc t0 (fc t1 fz)), fz, fz, (fc c0 fz), fz, extL_ok⟩ (Λ := []) (fun _ h => by cases h) (lf := 100000) (d := 60) (l0 := [(.num (.var 0) (.var 0)), (.num (.var 1) (.var 1)), (.num (.var 8) (.var 8)), (.num (.var 13) (.var 13)), (.num (.var 14) (.var 14)), (.num (.var 15) (.var 15))]) (by kernel_rfl) (fc rfl (fc rfl (fc rfl (fc rfl (fc rfl (fc rfl fz)))))) (l := [(.num (.var 0) (.var 0)), (.num (.var 1) (.var 1)), (.num (.var 8) (.var 8)), (.num (.var 13) (.var 13)), (.num (.var 14) (.var 14)), (.num (.var 18) (.var 15))]) (by kernel_rfl) (fc rfl (fc rfl (fc rfl (fc rfl (fc rfl (fc rfl fz))))))
def RmbG1 (P : Program) : Facts := {
  exts := extL P,
  eqs := [((.bin (.subW .i64) (.var 15) (.var 14)), (.var 16)), ((.bin (.addW .i64) (.var 14) (.var 15)), (.var 17)), ((.bin (.quoW .i64) (.var 17) (.lit 2)), (.var 18)), ((.bin (.mulW .i64) (.var 18) (.var 18)), (.var 19)), ((.bin (.mulW .i64) (.var 1) (.var 1)), (.var 20)), ((.bin (.mulW .i64) (.lit 10000) (.var 0)), (.var 21)), ((.bin (.mulW .i64) (.var 21) (.var 0)), (.var 22))],
  bits := [((.icmp .gtr (.var 16) (.lit 1)), true), ((.icmp .leq (.var 23) (.lit 0)), true)],
  fl := [],
  f2i := [],
  calls := [((54, [(.int .i64 (.var 19)), (.int .i64 (.var 20)), (.int .i64 (.var 22)), (.int .i64 (.var 13))]), (.int .i64 (.var 23)))] }
theorem Rmb_1 {a b share v3 v4 v5 v6 v7 v8 v9 v10 v11 v12 v13 x0 x1 u0 u1 u2 u3 u4 u5 u6 u7 : Int} {rest rest' : List Int}
    (e0 : IntKind.i64.wrap (x1 - x0) = u0)
    (e1 : IntKind.i64.wrap (x0 + x1) = u1)
    (e2 : IntKind.i64.wrap ((u1 : Int).tdiv 2) = u2)
    (e3 : IntKind.i64.wrap (u2 * u2) = u3)
    (e4 : IntKind.i64.wrap (b * b) = u4)
    (e5 : IntKind.i64.wrap (10000 * a) = u5)
    (e6 : IntKind.i64.wrap (u5 * a) = u6)
    (t0 : decide ((u0 : Int) > 1) = true)
    (t1 : decide ((u7 : Int) ≤ 0) = true)
    (c0 : ∀ w, Calls Try.prog 54 #[.int .i64 u3, .int .i64 u4, .int .i64 u6, .int .i64 v13] w fun e w' => e = .returned (.int .i64 u7) ∧ Below w.heap.size w w') : ∀ x, codeAt Try.prog 18 [0, 0, 1, 1, 1, 1, 1] = some (.loop x) → Leads2 Try.prog (lenv (a :: b :: share :: v3 :: v4 :: v5 :: v6 :: v7 :: v8 :: v9 :: v10 :: v11 :: v12 :: v13 :: x0 :: x1 :: rest)) (lenv (a :: b :: share :: v3 :: v4 :: v5 :: v6 :: v7 :: v8 :: v9 :: v10 :: v11 :: v12 :: v13 :: u2 :: x1 :: rest')) x RmbT RmbH (.normal, RmbT, RmbH, []) :=
  step2_ok mixed names (ρ1 := lenv [a, b, share, v3, v4, v5, v6, v7, v8, v9, v10, v11, v12, v13, x0, x1, u0, u1, u2, u3, u4, u5, u6, u7]) (Γ := RmbG1 Try.prog) ⟨(fc e0 (fc e1 (fc e2 (fc e3 (fc e4 (fc e5 (fc e6 fz))))))), (fc t0 (fc t1 fz)), fz, fz, (fc c0 fz), fz, extL_ok⟩ (Λ := []) (fun _ h => by cases h) (lf := 100000) (d := 60) (l0 := [(.num (.var 0) (.var 0)), (.num (.var 1) (.var 1)), (.num (.var 8) (.var 8)), (.num (.var 13) (.var 13)), (.num (.var 14) (.var 14)), (.num (.var 15) (.var 15))]) (by kernel_rfl) (fc rfl (fc rfl (fc rfl (fc rfl (fc rfl (fc rfl fz)))))) (l := [(.num (.var 0) (.var 0)), (.num (.var 1) (.var 1)), (.num (.var 8) (.var 8)), (.num (.var 13) (.var 13)), (.num (.var 18) (.var 14)), (.num (.var 15) (.var 15))]) (by kernel_rfl) (fc rfl (fc rfl (fc rfl (fc rfl (fc rfl (fc rfl fz))))))
def RmbG2 (P : Program) : Facts := {
  exts := extL P,
  eqs := [((.bin (.subW .i64) (.var 15) (.var 14)), (.var 16))],
  bits := [((.icmp .gtr (.var 16) (.lit 1)), false)],
  fl := [],
  f2i := [],
  calls := [] }
theorem Rmb_2 {a b share v3 v4 v5 v6 v7 v8 v9 v10 v11 v12 v13 x0 x1 u0 : Int} {rest rest' : List Int}
    (e0 : IntKind.i64.wrap (x1 - x0) = u0)
    (t0 : decide ((u0 : Int) > 1) = false) : ∀ x, codeAt Try.prog 18 [0, 0, 1, 1, 1, 1, 1] = some (.loop x) → Leads2 Try.prog (lenv (a :: b :: share :: v3 :: v4 :: v5 :: v6 :: v7 :: v8 :: v9 :: v10 :: v11 :: v12 :: v13 :: x0 :: x1 :: rest)) (lenv (a :: b :: share :: v3 :: v4 :: v5 :: v6 :: v7 :: v8 :: v9 :: v10 :: v11 :: v12 :: v13 :: x0 :: rest')) x RmbT RmbH RmbR :=
  step2_ok mixed names (ρ1 := lenv [a, b, share, v3, v4, v5, v6, v7, v8, v9, v10, v11, v12, v13, x0, x1, u0]) (Γ := RmbG2 Try.prog) ⟨(fc e0 fz), (fc t0 fz), fz, fz, fz, fz, extL_ok⟩ (Λ := []) (fun _ h => by cases h) (lf := 100000) (d := 60) (l0 := [(.num (.var 0) (.var 0)), (.num (.var 1) (.var 1)), (.num (.var 8) (.var 8)), (.num (.var 13) (.var 13)), (.num (.var 14) (.var 14)), (.num (.var 15) (.var 15))]) (by kernel_rfl) (fc rfl (fc rfl (fc rfl (fc rfl (fc rfl (fc rfl fz)))))) (l := [(.num (.var 8) (.var 8)), (.num (.var 14) (.var 14))]) (by kernel_rfl) (fc rfl (fc rfl fz))
def RmbG (P : Program) : Facts := {
  exts := extL P,
  eqs := [((.bin (.mulW .i64) (.var 2) (.var 0)), (.var 3)), ((.bin (.mulW .i64) (.var 3) (.var 0)), (.var 4)), ((.bin (.subW .i64) (.lit 10000) (.var 2)), (.var 5)), ((.bin (.mulW .i64) (.var 5) (.var 1)), (.var 6)), ((.bin (.mulW .i64) (.var 6) (.var 1)), (.var 7)), ((.bin (.addW .i64) (.var 4) (.var 7)), (.var 8)), ((.bin (.mulW .i64) (.var 2) (.var 1)), (.var 9)), ((.bin (.mulW .i64) (.var 9) (.var 1)), (.var 10)), ((.bin (.mulW .i64) (.var 5) (.var 0)), (.var 11)), ((.bin (.mulW .i64) (.var 11) (.var 0)), (.var 12)), ((.bin (.addW .i64) (.var 10) (.var 12)), (.var 13)), ((.bin (.mulW .i64) (.var 16) (.var 16)), (.var 17)), ((.bin (.mulW .i64) (.var 17) (.lit 10000)), (.var 18)), ((.bin (.addW .i64) (.var 16) (.lit 1)), (.var 19))],
  bits := [((.icmp .lss (.var 18) (.var 8)), true)],
  fl := [],
  f2i := [],
  calls := [((14, [(.int .i64 (.var 0)), (.int .i64 (.lit 5000)), (.int .i64 (.lit 80000))]), (.bool (.lit true))), ((14, [(.int .i64 (.var 1)), (.int .i64 (.lit 5000)), (.int .i64 (.lit 80000))]), (.bool (.lit true))), ((14, [(.int .i64 (.var 2)), (.int .i64 (.lit 0)), (.int .i64 (.lit 10000))]), (.bool (.lit true))), ((56, [(.int .i64 (.var 8)), (.int .i64 (.lit 10000))]), (.int .i64 (.var 15))), ((55, [(.int .i64 (.var 15))]), (.int .i64 (.var 16)))] }
theorem Rmb {a b share v3 v4 v5 v6 v7 v8 v9 v10 v11 v12 v13 r0 v15 v16 v17 v18 v19 : Int}
    (e0 : IntKind.i64.wrap (share * a) = v3)
    (e1 : IntKind.i64.wrap (v3 * a) = v4)
    (e2 : IntKind.i64.wrap (10000 - share) = v5)
    (e3 : IntKind.i64.wrap (v5 * b) = v6)
    (e4 : IntKind.i64.wrap (v6 * b) = v7)
    (e5 : IntKind.i64.wrap (v4 + v7) = v8)
    (e6 : IntKind.i64.wrap (share * b) = v9)
    (e7 : IntKind.i64.wrap (v9 * b) = v10)
    (e8 : IntKind.i64.wrap (v5 * a) = v11)
    (e9 : IntKind.i64.wrap (v11 * a) = v12)
    (e10 : IntKind.i64.wrap (v10 + v12) = v13)
    (e11 : IntKind.i64.wrap (v16 * v16) = v17)
    (e12 : IntKind.i64.wrap (v17 * 10000) = v18)
    (e13 : IntKind.i64.wrap (v16 + 1) = v19)
    (t0 : decide ((v18 : Int) < v8) = true)
    (c0 : ∀ w, Calls Try.prog 14 #[.int .i64 a, .int .i64 5000, .int .i64 80000] w fun e w' => e = .returned (.bool (true)) ∧ Below w.heap.size w w')
    (c1 : ∀ w, Calls Try.prog 14 #[.int .i64 b, .int .i64 5000, .int .i64 80000] w fun e w' => e = .returned (.bool (true)) ∧ Below w.heap.size w w')
    (c2 : ∀ w, Calls Try.prog 14 #[.int .i64 share, .int .i64 0, .int .i64 10000] w fun e w' => e = .returned (.bool (true)) ∧ Below w.heap.size w w')
    (c3 : ∀ w, Calls Try.prog 56 #[.int .i64 v8, .int .i64 10000] w fun e w' => e = .returned (.int .i64 v15) ∧ Below w.heap.size w w')
    (c4 : ∀ w, Calls Try.prog 55 #[.int .i64 v15] w fun e w' => e = .returned (.int .i64 v16) ∧ Below w.heap.size w w')
    (hl : RmbL.Ok Try.prog (lenv [a, b, share, v3, v4, v5, v6, v7, v8, v9, v10, v11, v12, v13, r0, v15, v16, v17, v18, v19])) (w : World) :
    Calls Try.prog 18 #[.int .i64 a, .int .i64 b, .int .i64 share] w (fun e w' => e = .returned (.tuple #[.agg #[.int .i64 r0, .int .i64 v19], .int .i64 0]) ∧ Below w.heap.size w w') :=
  calls_of_evL mixed names (ρ := lenv [a, b, share, v3, v4, v5, v6, v7, v8, v9, v10, v11, v12, v13, r0, v15, v16, v17, v18, v19]) (Γ := RmbG Try.prog) ⟨(fc e0 (fc e1 (fc e2 (fc e3 (fc e4 (fc e5 (fc e6 (fc e7 (fc e8 (fc e9 (fc e10 (fc e11 (fc e12 (fc e13 fz)))))))))))))), (fc t0 fz), fz, fz, (fc c0 (fc c1 (fc c2 (fc c3 (fc c4 fz))))), fz, extL_ok⟩ (Λ := [RmbL]) (fc hl fz) (lf := 100000) (d := 60) (args := [(.int .i64 (.var 0)), (.int .i64 (.var 1)), (.int .i64 (.var 2))]) (v := (.tuple [(.agg [(.int .i64 (.var 14)), (.int .i64 (.var 19))]), (.int .i64 (.lit 0))])) (H' := []) (by kernel_rfl) rfl rfl (by kernel_rfl) w
def Rmbo1G (P : Program) : Facts := {
  exts := extL P,
  eqs := [((.bin (.mulW .i64) (.var 2) (.var 0)), (.var 3)), ((.bin (.mulW .i64) (.var 3) (.var 0)), (.var 4)), ((.bin (.subW .i64) (.lit 10000) (.var 2)), (.var 5)), ((.bin (.mulW .i64) (.var 5) (.var 1)), (.var 6)), ((.bin (.mulW .i64) (.var 6) (.var 1)), (.var 7)), ((.bin (.addW .i64) (.var 4) (.var 7)), (.var 8)), ((.bin (.mulW .i64) (.var 2) (.var 1)), (.var 9)), ((.bin (.mulW .i64) (.var 9) (.var 1)), (.var 10)), ((.bin (.mulW .i64) (.var 5) (.var 0)), (.var 11)), ((.bin (.mulW .i64) (.var 11) (.var 0)), (.var 12)), ((.bin (.addW .i64) (.var 10) (.var 12)), (.var 13)), ((.bin (.mulW .i64) (.var 16) (.var 16)), (.var 17)), ((.bin (.mulW .i64) (.var 17) (.lit 10000)), (.var 18))],
  bits := [((.icmp .lss (.var 18) (.var 8)), false)],
  fl := [],
  f2i := [],
  calls := [((14, [(.int .i64 (.var 0)), (.int .i64 (.lit 5000)), (.int .i64 (.lit 80000))]), (.bool (.lit true))), ((14, [(.int .i64 (.var 1)), (.int .i64 (.lit 5000)), (.int .i64 (.lit 80000))]), (.bool (.lit true))), ((14, [(.int .i64 (.var 2)), (.int .i64 (.lit 0)), (.int .i64 (.lit 10000))]), (.bool (.lit true))), ((56, [(.int .i64 (.var 8)), (.int .i64 (.lit 10000))]), (.int .i64 (.var 15))), ((55, [(.int .i64 (.var 15))]), (.int .i64 (.var 16)))] }
theorem Rmbo1 {a b share v3 v4 v5 v6 v7 v8 v9 v10 v11 v12 v13 r0 v15 v16 v17 v18 : Int}
    (e0 : IntKind.i64.wrap (share * a) = v3)
    (e1 : IntKind.i64.wrap (v3 * a) = v4)
    (e2 : IntKind.i64.wrap (10000 - share) = v5)
    (e3 : IntKind.i64.wrap (v5 * b) = v6)
    (e4 : IntKind.i64.wrap (v6 * b) = v7)
    (e5 : IntKind.i64.wrap (v4 + v7) = v8)
    (e6 : IntKind.i64.wrap (share * b) = v9)
    (e7 : IntKind.i64.wrap (v9 * b) = v10)
    (e8 : IntKind.i64.wrap (v5 * a) = v11)
    (e9 : IntKind.i64.wrap (v11 * a) = v12)
    (e10 : IntKind.i64.wrap (v10 + v12) = v13)
    (e11 : IntKind.i64.wrap (v16 * v16) = v17)
    (e12 : IntKind.i64.wrap (v17 * 10000) = v18)
    (t0 : decide ((v18 : Int) < v8) = false)
    (c0 : ∀ w, Calls Try.prog 14 #[.int .i64 a, .int .i64 5000, .int .i64 80000] w fun e w' => e = .returned (.bool (true)) ∧ Below w.heap.size w w')
    (c1 : ∀ w, Calls Try.prog 14 #[.int .i64 b, .int .i64 5000, .int .i64 80000] w fun e w' => e = .returned (.bool (true)) ∧ Below w.heap.size w w')
    (c2 : ∀ w, Calls Try.prog 14 #[.int .i64 share, .int .i64 0, .int .i64 10000] w fun e w' => e = .returned (.bool (true)) ∧ Below w.heap.size w w')
    (c3 : ∀ w, Calls Try.prog 56 #[.int .i64 v8, .int .i64 10000] w fun e w' => e = .returned (.int .i64 v15) ∧ Below w.heap.size w w')
    (c4 : ∀ w, Calls Try.prog 55 #[.int .i64 v15] w fun e w' => e = .returned (.int .i64 v16) ∧ Below w.heap.size w w')
    (hl : RmbL.Ok Try.prog (lenv [a, b, share, v3, v4, v5, v6, v7, v8, v9, v10, v11, v12, v13, r0, v15, v16, v17, v18])) (w : World) :
    Calls Try.prog 18 #[.int .i64 a, .int .i64 b, .int .i64 share] w (fun e w' => e = .returned (.tuple #[.agg #[.int .i64 r0, .int .i64 v16], .int .i64 0]) ∧ Below w.heap.size w w') :=
  calls_of_evL mixed names (ρ := lenv [a, b, share, v3, v4, v5, v6, v7, v8, v9, v10, v11, v12, v13, r0, v15, v16, v17, v18]) (Γ := Rmbo1G Try.prog) ⟨(fc e0 (fc e1 (fc e2 (fc e3 (fc e4 (fc e5 (fc e6 (fc e7 (fc e8 (fc e9 (fc e10 (fc e11 (fc e12 fz))))))))))))), (fc t0 fz), fz, fz, (fc c0 (fc c1 (fc c2 (fc c3 (fc c4 fz))))), fz, extL_ok⟩ (Λ := [RmbL]) (fc hl fz) (lf := 100000) (d := 60) (args := [(.int .i64 (.var 0)), (.int .i64 (.var 1)), (.int .i64 (.var 2))]) (v := (.tuple [(.agg [(.int .i64 (.var 14)), (.int .i64 (.var 16))]), (.int .i64 (.lit 0))])) (H' := []) (by kernel_rfl) rfl rfl (by kernel_rfl) w
end Go.Proofs.Ytpgojkoldhpbkaa.Ev
