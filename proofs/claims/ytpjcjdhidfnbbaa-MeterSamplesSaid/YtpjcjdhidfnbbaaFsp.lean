/- Samples of harmonics: program and reference. -/
import Derived.Test.YtpjcjdhidfnbbaaFrwe
namespace Go.Proofs.Ytpjcjdhidfnbbaa.Ev
set_option linter.unusedSimpArgs false
open Go Go.RowKit
set_option linter.unusedVariables false
set_option maxRecDepth 100000
def etalonref06_part_s : Sig := ⟨92, ⟨2, 0, 0⟩, ⟨2, 0, 0⟩, [(.float .f64 (.var 0)), (.int .i64 (.var 1))], [], (.tuple [(.int .i64 (.var 2)), (.int .i64 (.var 3))]), []⟩
def etalonref06_parts_s : Sig := ⟨62, ⟨3, 0, 0⟩, ⟨3, 0, 0⟩, [(.complex .f64 (.var 0) (.var 1)), (.int .i64 (.var 2))], [], (.tuple [(.int .i64 (.var 3)), (.int .i64 (.var 4)), (.int .i64 (.var 5))]), []⟩
def meter_SamplesOf_s : Sig := ⟨25, ⟨8, 0, 0⟩, ⟨5, 0, 0⟩, [(.agg [(.complex .f64 (.var 0) (.var 1)), (.complex .f64 (.var 2) (.var 3)), (.complex .f64 (.var 4) (.var 5)), (.complex .f64 (.var 6) (.var 7))])], [], (.tuple [(.agg [(.int .i64 (.var 8)), (.int .i64 (.var 9)), (.int .i64 (.var 10)), (.int .i64 (.var 11))]), (.int .i64 (.var 12))]), []⟩
def etalonref06_SamplesOf_s : Sig := ⟨26, ⟨8, 0, 0⟩, ⟨5, 0, 0⟩, [(.agg [(.complex .f64 (.var 0) (.var 1)), (.complex .f64 (.var 2) (.var 3)), (.complex .f64 (.var 4) (.var 5)), (.complex .f64 (.var 6) (.var 7))])], [], (.tuple [(.agg [(.int .i64 (.var 8)), (.int .i64 (.var 9)), (.int .i64 (.var 10)), (.int .i64 (.var 11))]), (.int .i64 (.var 12))]), []⟩

def ptb_t : Tr :=
  (.call etalonbase_IsWhole_s ⟨[(.var 0)], [], []⟩ ⟨[(.var 0)], [(.var 0)], []⟩ ⟨54, [(.float .f64 (.var 0))], [], [], (.bool (.var 0)), []⟩
  (.ite (.var 0)
  (.ite (.fcmp .f64 .gtr (.var 0) (.toF .f64 (.var 1)))
   (.ret ⟨[(.lit 0), (.lit 2)], [], []⟩ [])
   (.ite (.fcmp .f64 .lss (.var 0) (.toF .f64 (.bin .subI (.lit 0) (.var 1))))
    (.ret ⟨[(.lit 0), (.lit 2)], [], []⟩ [])
    .nil))
  (.ret ⟨[(.lit 0), (.lit 27)], [], []⟩ [])))
theorem ptb {x0 x1 : Int} (r1 : 10000000 ≤ x1 ∧ x1 ≤ 10000000) {R : Int → Int → Prop}
  (H : (∃ u0 : Bool, Spec Try.prog etalonbase_IsWhole_s ⟨[x0], [], []⟩ [] [u0] [] ∧
   ((u0 = true → ((COp.flo .f64 .gtr (x0 : Int).toNat (((FloatKind.f64.nearest x1 : Nat) : Int) : Int).toNat = true → R (0) (2)) ∧
    (COp.flo .f64 .gtr (x0 : Int).toNat (((FloatKind.f64.nearest x1 : Nat) : Int) : Int).toNat = false → ((COp.flo .f64 .lss (x0 : Int).toNat (((FloatKind.f64.nearest (0 - x1) : Nat) : Int) : Int).toNat = true → R (0) (2)) ∧
     (COp.flo .f64 .lss (x0 : Int).toNat (((FloatKind.f64.nearest (0 - x1) : Nat) : Int) : Int).toNat = false → False))))) ∧
   (u0 = false → R (0) (27))))) :
    ∃ v0 : Int, ∃ v1 : Int, R v0 v1 ∧ Spec Try.prog etalonref06_part_s ⟨[x0, x1], [], []⟩ [v0, v1] [] [] :=
  Eq.mp (by kernel_rfl) (exV_of (K := fun d => app3 etalonref06_part_s.out R d ∧ Spec Try.prog etalonref06_part_s ⟨[x0, x1], [], []⟩ d.1 d.2.1 d.2.2) (tree_at mixed names S0_ok (S := S0 Try.prog) (lf := 100000) (d := 60) etalonref06_part_s ptb_t { ivs := [(1, 10000000, 10000000)], aivs := [] } ⟨[x0, x1], [], []⟩ rfl (by kernel_rfl) (by kernel_rfl) (by kernel_rfl) ⟨(fc r1 fz), fz, fz, fz⟩ (R := fun d => app3 etalonref06_part_s.out R d) (Eq.mp (by kernel_rfl) H)))

def ptg_t : Tr :=
  (.whole 0 10000000 (.rng 2 (-10000000) 10000000 (.ret ⟨[(.var 2), (.lit 0)], [], []⟩ [])))
theorem ptg {x0 x1 : Int} (r1 : 10000000 ≤ x1 ∧ x1 ≤ 10000000) {R : Int → Int → Prop}
  (H : (∃ v2 : Int, (Rp (x0 : Int).toNat v2 ∧ v2.natAbs ≤ 10000000) ∧ (((-10000000) ≤ (v2 : Int) ∧ (v2 : Int) ≤ 10000000) ∧ R (v2) (0)))) :
    ∃ v0 : Int, ∃ v1 : Int, R v0 v1 ∧ Spec Try.prog etalonref06_part_s ⟨[x0, x1], [], []⟩ [v0, v1] [] [] :=
  Eq.mp (by kernel_rfl) (exV_of (K := fun d => app3 etalonref06_part_s.out R d ∧ Spec Try.prog etalonref06_part_s ⟨[x0, x1], [], []⟩ d.1 d.2.1 d.2.2) (tree_at mixed names S1_ok (S := S1 Try.prog) (lf := 100000) (d := 60) etalonref06_part_s ptg_t { ivs := [(1, 10000000, 10000000)], aivs := [] } ⟨[x0, x1], [], []⟩ rfl (by kernel_rfl) (by kernel_rfl) (by kernel_rfl) ⟨(fc r1 fz), fz, fz, fz⟩ (R := fun d => app3 etalonref06_part_s.out R d) (Eq.mp (by kernel_rfl) H)))

def pa_t : Tr :=
  (.call etalonref06_part_s ⟨[(.var 0), (.var 2)], [], []⟩ ⟨[(.var 0), (.var 2), (.var 3), (.var 4)], [], []⟩ ⟨92, [(.float .f64 (.var 0)), (.int .i64 (.var 2))], [], [], (.tuple [(.int .i64 (.var 3)), (.int .i64 (.var 4))]), []⟩
  (.call etalonref06_part_s ⟨[(.var 1), (.var 2)], [], []⟩ ⟨[(.var 1), (.var 2), (.var 5), (.var 6)], [], []⟩ ⟨92, [(.float .f64 (.var 1)), (.int .i64 (.var 2))], [], [], (.tuple [(.int .i64 (.var 5)), (.int .i64 (.var 6))]), []⟩
  (.ite (.icmp .eql (.var 4) (.lit 27))
  (.ret ⟨[(.lit 0), (.lit 0), (.lit 27)], [], []⟩ [])
  (.ite (.icmp .eql (.var 6) (.lit 27))
   (.ret ⟨[(.lit 0), (.lit 0), (.lit 27)], [], []⟩ [])
   (.ret ⟨[(.var 3), (.var 5), (.bin .maxI (.var 4) (.var 6))], [], []⟩ [])))))
theorem pa {x0 x1 x2 : Int} (r2 : (-9223372036854775808) ≤ x2 ∧ x2 ≤ 9223372036854775807) {R : Int → Int → Int → Prop}
  (H : (∃ v3 : Int, ∃ v4 : Int, Spec Try.prog etalonref06_part_s ⟨[x0, x2], [], []⟩ [v3, v4] [] [] ∧
   (∃ v5 : Int, ∃ v6 : Int, Spec Try.prog etalonref06_part_s ⟨[x1, x2], [], []⟩ [v5, v6] [] [] ∧
   ((((v4 : Int) == 27) = true → R (0) (0) (27)) ∧
   (((v4 : Int) == 27) = false → ((((v6 : Int) == 27) = true → R (0) (0) (27)) ∧
    (((v6 : Int) == 27) = false → R (v3) (v5) ((if (v6 : Int) > v4 then v6 else v4))))))))) :
    ∃ v0 : Int, ∃ v1 : Int, ∃ v2 : Int, R v0 v1 v2 ∧ Spec Try.prog etalonref06_parts_s ⟨[x0, x1, x2], [], []⟩ [v0, v1, v2] [] [] :=
  Eq.mp (by kernel_rfl) (exV_of (K := fun d => app3 etalonref06_parts_s.out R d ∧ Spec Try.prog etalonref06_parts_s ⟨[x0, x1, x2], [], []⟩ d.1 d.2.1 d.2.2) (tree_at mixed names S1_ok (S := S1 Try.prog) (lf := 100000) (d := 60) etalonref06_parts_s pa_t { ivs := [(2, (-9223372036854775808), 9223372036854775807)], aivs := [] } ⟨[x0, x1, x2], [], []⟩ rfl (by kernel_rfl) (by kernel_rfl) (by kernel_rfl) ⟨(fc r2 fz), fz, fz, fz⟩ (R := fun d => app3 etalonref06_parts_s.out R d) (Eq.mp (by kernel_rfl) H)))

def sog_t : Tr :=
  (.whole 0 10000000 (.rng 8 (-10000000) 10000000 (.whole 1 10000000 (.rng 9 (-10000000) 10000000 (.whole 2 10000000 (.rng 10 (-10000000) 10000000 (.whole 3 10000000 (.rng 11 (-10000000) 10000000 (.whole 4 10000000 (.rng 12 (-10000000) 10000000 (.whole 5 10000000 (.rng 13 (-10000000) 10000000 (.whole 6 10000000 (.rng 14 (-10000000) 10000000 (.whole 7 10000000 (.rng 15 (-10000000) 10000000 (.call whole_CheckParts_s ⟨[(.var 0), (.var 1), (.toF .f64 (.lit 10000000))], [], []⟩ ⟨[(.var 0), (.var 1), (.toF .f64 (.lit 10000000)), (.var 16)], [], []⟩ ⟨60, [(.complex .f64 (.var 0) (.var 1)), (.float .f64 (.toF .f64 (.lit 10000000)))], [], [none, none], (.int .i64 (.var 16)), []⟩
  (.ite (.icmp .eql (.var 16) (.lit 0))
  (.call whole_CheckParts_s ⟨[(.var 2), (.var 3), (.toF .f64 (.lit 10000000))], [], []⟩ ⟨[(.var 2), (.var 3), (.toF .f64 (.lit 10000000)), (.var 17)], [], []⟩ ⟨60, [(.complex .f64 (.var 2) (.var 3)), (.float .f64 (.toF .f64 (.lit 10000000)))], [], [none, none], (.int .i64 (.var 17)), []⟩
   (.ite (.icmp .eql (.var 17) (.lit 0))
   (.call whole_CheckParts_s ⟨[(.var 4), (.var 5), (.toF .f64 (.lit 10000000))], [], []⟩ ⟨[(.var 4), (.var 5), (.toF .f64 (.lit 10000000)), (.var 18)], [], []⟩ ⟨60, [(.complex .f64 (.var 4) (.var 5)), (.float .f64 (.toF .f64 (.lit 10000000)))], [], [none, none], (.int .i64 (.var 18)), []⟩
    (.ite (.icmp .eql (.var 18) (.lit 0))
    (.call whole_CheckParts_s ⟨[(.var 6), (.var 7), (.toF .f64 (.lit 10000000))], [], []⟩ ⟨[(.var 6), (.var 7), (.toF .f64 (.lit 10000000)), (.var 19)], [], []⟩ ⟨60, [(.complex .f64 (.var 6) (.var 7)), (.float .f64 (.toF .f64 (.lit 10000000)))], [], [none, none], (.int .i64 (.var 19)), []⟩
     (.ite (.icmp .eql (.var 19) (.lit 0))
     (.ite (.icmp .eql (.bin .remK (.bin .addI (.bin .addI (.bin .addI (.var 8) (.var 10)) (.var 12)) (.var 14)) (.lit 4)) (.lit 0))
      (.ite (.icmp .eql (.bin .addI (.bin .addI (.bin .addI (.var 9) (.var 11)) (.var 13)) (.var 15)) (.lit 0))
       (.ite (.icmp .eql (.bin .remK (.bin .addI (.bin .addI (.bin .addI (.var 8) (.bin .subI (.lit 0) (.var 11))) (.bin .mulI (.var 12) (.lit (-1)))) (.bin .subI (.lit 0) (.bin .mulI (.var 15) (.lit (-1))))) (.lit 4)) (.lit 0))
        (.ite (.icmp .eql (.bin .addI (.bin .addI (.bin .addI (.var 9) (.var 10)) (.bin .mulI (.var 13) (.lit (-1)))) (.bin .mulI (.var 14) (.lit (-1)))) (.lit 0))
         (.ite (.icmp .eql (.bin .remK (.bin .addI (.bin .addI (.bin .addI (.var 8) (.bin .mulI (.var 10) (.lit (-1)))) (.var 12)) (.bin .mulI (.var 14) (.lit (-1)))) (.lit 4)) (.lit 0))
          (.ite (.icmp .eql (.bin .addI (.bin .addI (.bin .addI (.var 9) (.bin .mulI (.var 11) (.lit (-1)))) (.var 13)) (.bin .mulI (.var 15) (.lit (-1)))) (.lit 0))
           (.ite (.icmp .eql (.bin .remK (.bin .addI (.bin .addI (.bin .addI (.var 8) (.bin .subI (.lit 0) (.bin .mulI (.var 11) (.lit (-1))))) (.bin .mulI (.var 12) (.lit (-1)))) (.bin .subI (.lit 0) (.var 15))) (.lit 4)) (.lit 0))
            (.ite (.icmp .eql (.bin .addI (.bin .addI (.bin .addI (.var 9) (.bin .mulI (.var 10) (.lit (-1)))) (.bin .mulI (.var 13) (.lit (-1)))) (.var 14)) (.lit 0))
             (.ret ⟨[(.bin .quoI (.bin .addI (.bin .addI (.bin .addI (.var 8) (.var 10)) (.var 12)) (.var 14)) (.lit 4)), (.bin .quoI (.bin .addI (.bin .addI (.bin .addI (.var 8) (.bin .subI (.lit 0) (.var 11))) (.bin .mulI (.var 12) (.lit (-1)))) (.bin .subI (.lit 0) (.bin .mulI (.var 15) (.lit (-1))))) (.lit 4)), (.bin .quoI (.bin .addI (.bin .addI (.bin .addI (.var 8) (.bin .mulI (.var 10) (.lit (-1)))) (.var 12)) (.bin .mulI (.var 14) (.lit (-1)))) (.lit 4)), (.bin .quoI (.bin .addI (.bin .addI (.bin .addI (.var 8) (.bin .subI (.lit 0) (.bin .mulI (.var 11) (.lit (-1))))) (.bin .mulI (.var 12) (.lit (-1)))) (.bin .subI (.lit 0) (.var 15))) (.lit 4)), (.lit 0)], [], []⟩ [])
             (.ret ⟨[(.lit 0), (.lit 0), (.lit 0), (.lit 0), (.lit 13)], [], []⟩ []))
            (.ret ⟨[(.lit 0), (.lit 0), (.lit 0), (.lit 0), (.lit 13)], [], []⟩ []))
           (.ret ⟨[(.lit 0), (.lit 0), (.lit 0), (.lit 0), (.lit 13)], [], []⟩ []))
          (.ret ⟨[(.lit 0), (.lit 0), (.lit 0), (.lit 0), (.lit 13)], [], []⟩ []))
         (.ret ⟨[(.lit 0), (.lit 0), (.lit 0), (.lit 0), (.lit 13)], [], []⟩ []))
        (.ret ⟨[(.lit 0), (.lit 0), (.lit 0), (.lit 0), (.lit 13)], [], []⟩ []))
       (.ret ⟨[(.lit 0), (.lit 0), (.lit 0), (.lit 0), (.lit 13)], [], []⟩ []))
      (.ret ⟨[(.lit 0), (.lit 0), (.lit 0), (.lit 0), (.lit 13)], [], []⟩ []))
     (.ret ⟨[(.lit 0), (.lit 0), (.lit 0), (.lit 0), (.var 19)], [], []⟩ [])))
    (.ret ⟨[(.lit 0), (.lit 0), (.lit 0), (.lit 0), (.var 18)], [], []⟩ [])))
   (.ret ⟨[(.lit 0), (.lit 0), (.lit 0), (.lit 0), (.var 17)], [], []⟩ [])))
  (.ret ⟨[(.lit 0), (.lit 0), (.lit 0), (.lit 0), (.var 16)], [], []⟩ [])))))))))))))))))))
theorem sog {x0 x1 x2 x3 x4 x5 x6 x7 : Int} {R : Int → Int → Int → Int → Int → Prop}
  (H : (∃ v8 : Int, (Rp (x0 : Int).toNat v8 ∧ v8.natAbs ≤ 10000000) ∧ (((-10000000) ≤ (v8 : Int) ∧ (v8 : Int) ≤ 10000000) ∧ (∃ v9 : Int, (Rp (x1 : Int).toNat v9 ∧ v9.natAbs ≤ 10000000) ∧ (((-10000000) ≤ (v9 : Int) ∧ (v9 : Int) ≤ 10000000) ∧ (∃ v10 : Int, (Rp (x2 : Int).toNat v10 ∧ v10.natAbs ≤ 10000000) ∧ (((-10000000) ≤ (v10 : Int) ∧ (v10 : Int) ≤ 10000000) ∧ (∃ v11 : Int, (Rp (x3 : Int).toNat v11 ∧ v11.natAbs ≤ 10000000) ∧ (((-10000000) ≤ (v11 : Int) ∧ (v11 : Int) ≤ 10000000) ∧ (∃ v12 : Int, (Rp (x4 : Int).toNat v12 ∧ v12.natAbs ≤ 10000000) ∧ (((-10000000) ≤ (v12 : Int) ∧ (v12 : Int) ≤ 10000000) ∧ (∃ v13 : Int, (Rp (x5 : Int).toNat v13 ∧ v13.natAbs ≤ 10000000) ∧ (((-10000000) ≤ (v13 : Int) ∧ (v13 : Int) ≤ 10000000) ∧ (∃ v14 : Int, (Rp (x6 : Int).toNat v14 ∧ v14.natAbs ≤ 10000000) ∧ (((-10000000) ≤ (v14 : Int) ∧ (v14 : Int) ≤ 10000000) ∧ (∃ v15 : Int, (Rp (x7 : Int).toNat v15 ∧ v15.natAbs ≤ 10000000) ∧ (((-10000000) ≤ (v15 : Int) ∧ (v15 : Int) ≤ 10000000) ∧ (∃ v16 : Int, Spec Try.prog whole_CheckParts_s ⟨[x0, x1, ((FloatKind.f64.nearest 10000000 : Nat) : Int)], [], []⟩ [v16] [] [] ∧
   ((((v16 : Int) == 0) = true → (∃ v17 : Int, Spec Try.prog whole_CheckParts_s ⟨[x2, x3, ((FloatKind.f64.nearest 10000000 : Nat) : Int)], [], []⟩ [v17] [] [] ∧
    ((((v17 : Int) == 0) = true → (∃ v18 : Int, Spec Try.prog whole_CheckParts_s ⟨[x4, x5, ((FloatKind.f64.nearest 10000000 : Nat) : Int)], [], []⟩ [v18] [] [] ∧
     ((((v18 : Int) == 0) = true → (∃ v19 : Int, Spec Try.prog whole_CheckParts_s ⟨[x6, x7, ((FloatKind.f64.nearest 10000000 : Nat) : Int)], [], []⟩ [v19] [] [] ∧
      ((((v19 : Int) == 0) = true → (((((((((v8 + v10) + v12) + v14) : Int).tmod 4) : Int) == 0) = true → (((((((v9 + v11) + v13) + v15) : Int) == 0) = true → (((((((((v8 + (0 - v11)) + (v12 * (-1))) + (0 - (v15 * (-1)))) : Int).tmod 4) : Int) == 0) = true → (((((((v9 + v10) + (v13 * (-1))) + (v14 * (-1))) : Int) == 0) = true → (((((((((v8 + (v10 * (-1))) + v12) + (v14 * (-1))) : Int).tmod 4) : Int) == 0) = true → (((((((v9 + (v11 * (-1))) + v13) + (v15 * (-1))) : Int) == 0) = true → (((((((((v8 + (0 - (v11 * (-1)))) + (v12 * (-1))) + (0 - v15)) : Int).tmod 4) : Int) == 0) = true → (((((((v9 + (v10 * (-1))) + (v13 * (-1))) + v14) : Int) == 0) = true → R ((((((v8 + v10) + v12) + v14) : Int).tdiv 4)) ((((((v8 + (0 - v11)) + (v12 * (-1))) + (0 - (v15 * (-1)))) : Int).tdiv 4)) ((((((v8 + (v10 * (-1))) + v12) + (v14 * (-1))) : Int).tdiv 4)) ((((((v8 + (0 - (v11 * (-1)))) + (v12 * (-1))) + (0 - v15)) : Int).tdiv 4)) (0)) ∧
              ((((((v9 + (v10 * (-1))) + (v13 * (-1))) + v14) : Int) == 0) = false → R (0) (0) (0) (0) (13)))) ∧
             ((((((((v8 + (0 - (v11 * (-1)))) + (v12 * (-1))) + (0 - v15)) : Int).tmod 4) : Int) == 0) = false → R (0) (0) (0) (0) (13)))) ∧
            ((((((v9 + (v11 * (-1))) + v13) + (v15 * (-1))) : Int) == 0) = false → R (0) (0) (0) (0) (13)))) ∧
           ((((((((v8 + (v10 * (-1))) + v12) + (v14 * (-1))) : Int).tmod 4) : Int) == 0) = false → R (0) (0) (0) (0) (13)))) ∧
          ((((((v9 + v10) + (v13 * (-1))) + (v14 * (-1))) : Int) == 0) = false → R (0) (0) (0) (0) (13)))) ∧
         ((((((((v8 + (0 - v11)) + (v12 * (-1))) + (0 - (v15 * (-1)))) : Int).tmod 4) : Int) == 0) = false → R (0) (0) (0) (0) (13)))) ∧
        ((((((v9 + v11) + v13) + v15) : Int) == 0) = false → R (0) (0) (0) (0) (13)))) ∧
       ((((((((v8 + v10) + v12) + v14) : Int).tmod 4) : Int) == 0) = false → R (0) (0) (0) (0) (13)))) ∧
      (((v19 : Int) == 0) = false → R (0) (0) (0) (0) (v19))))) ∧
     (((v18 : Int) == 0) = false → R (0) (0) (0) (0) (v18))))) ∧
    (((v17 : Int) == 0) = false → R (0) (0) (0) (0) (v17))))) ∧
   (((v16 : Int) == 0) = false → R (0) (0) (0) (0) (v16))))))))))))))))))))) :
    ∃ v0 : Int, ∃ v1 : Int, ∃ v2 : Int, ∃ v3 : Int, ∃ v4 : Int, R v0 v1 v2 v3 v4 ∧ Spec Try.prog meter_SamplesOf_s ⟨[x0, x1, x2, x3, x4, x5, x6, x7], [], []⟩ [v0, v1, v2, v3, v4] [] [] :=
  Eq.mp (by kernel_rfl) (exV_of (K := fun d => app3 meter_SamplesOf_s.out R d ∧ Spec Try.prog meter_SamplesOf_s ⟨[x0, x1, x2, x3, x4, x5, x6, x7], [], []⟩ d.1 d.2.1 d.2.2) (tree_at mixed names S1_ok (S := S1 Try.prog) (lf := 100000) (d := 60) meter_SamplesOf_s sog_t { ivs := [], aivs := [] } ⟨[x0, x1, x2, x3, x4, x5, x6, x7], [], []⟩ rfl (by kernel_rfl) (by kernel_rfl) (by kernel_rfl) ⟨fz, fz, fz, fz⟩ (R := fun d => app3 meter_SamplesOf_s.out R d) (Eq.mp (by kernel_rfl) H)))

def sob_t : Tr :=
  (.call whole_CheckParts_s ⟨[(.var 0), (.var 1), (.toF .f64 (.lit 10000000))], [], []⟩ ⟨[(.var 0), (.var 1), (.toF .f64 (.lit 10000000)), (.var 8)], [], []⟩ ⟨60, [(.complex .f64 (.var 0) (.var 1)), (.float .f64 (.toF .f64 (.lit 10000000)))], [], [none, none], (.int .i64 (.var 8)), []⟩
  (.ite (.icmp .eql (.var 8) (.lit 0))
  (.call whole_CheckParts_s ⟨[(.var 2), (.var 3), (.toF .f64 (.lit 10000000))], [], []⟩ ⟨[(.var 2), (.var 3), (.toF .f64 (.lit 10000000)), (.var 9)], [], []⟩ ⟨60, [(.complex .f64 (.var 2) (.var 3)), (.float .f64 (.toF .f64 (.lit 10000000)))], [], [none, none], (.int .i64 (.var 9)), []⟩
   (.ite (.icmp .eql (.var 9) (.lit 0))
   (.call whole_CheckParts_s ⟨[(.var 4), (.var 5), (.toF .f64 (.lit 10000000))], [], []⟩ ⟨[(.var 4), (.var 5), (.toF .f64 (.lit 10000000)), (.var 10)], [], []⟩ ⟨60, [(.complex .f64 (.var 4) (.var 5)), (.float .f64 (.toF .f64 (.lit 10000000)))], [], [none, none], (.int .i64 (.var 10)), []⟩
    (.ite (.icmp .eql (.var 10) (.lit 0))
    (.call whole_CheckParts_s ⟨[(.var 6), (.var 7), (.toF .f64 (.lit 10000000))], [], []⟩ ⟨[(.var 6), (.var 7), (.toF .f64 (.lit 10000000)), (.var 11)], [], []⟩ ⟨60, [(.complex .f64 (.var 6) (.var 7)), (.float .f64 (.toF .f64 (.lit 10000000)))], [], [none, none], (.int .i64 (.var 11)), []⟩
     (.ite (.icmp .eql (.var 11) (.lit 0))
     .nil
     (.ret ⟨[(.lit 0), (.lit 0), (.lit 0), (.lit 0), (.var 11)], [], []⟩ [])))
    (.ret ⟨[(.lit 0), (.lit 0), (.lit 0), (.lit 0), (.var 10)], [], []⟩ [])))
   (.ret ⟨[(.lit 0), (.lit 0), (.lit 0), (.lit 0), (.var 9)], [], []⟩ [])))
  (.ret ⟨[(.lit 0), (.lit 0), (.lit 0), (.lit 0), (.var 8)], [], []⟩ [])))
theorem sob {x0 x1 x2 x3 x4 x5 x6 x7 : Int} {R : Int → Int → Int → Int → Int → Prop}
  (H : (∃ v8 : Int, Spec Try.prog whole_CheckParts_s ⟨[x0, x1, ((FloatKind.f64.nearest 10000000 : Nat) : Int)], [], []⟩ [v8] [] [] ∧
   ((((v8 : Int) == 0) = true → (∃ v9 : Int, Spec Try.prog whole_CheckParts_s ⟨[x2, x3, ((FloatKind.f64.nearest 10000000 : Nat) : Int)], [], []⟩ [v9] [] [] ∧
    ((((v9 : Int) == 0) = true → (∃ v10 : Int, Spec Try.prog whole_CheckParts_s ⟨[x4, x5, ((FloatKind.f64.nearest 10000000 : Nat) : Int)], [], []⟩ [v10] [] [] ∧
     ((((v10 : Int) == 0) = true → (∃ v11 : Int, Spec Try.prog whole_CheckParts_s ⟨[x6, x7, ((FloatKind.f64.nearest 10000000 : Nat) : Int)], [], []⟩ [v11] [] [] ∧
      ((((v11 : Int) == 0) = true → False) ∧
      (((v11 : Int) == 0) = false → R (0) (0) (0) (0) (v11))))) ∧
     (((v10 : Int) == 0) = false → R (0) (0) (0) (0) (v10))))) ∧
    (((v9 : Int) == 0) = false → R (0) (0) (0) (0) (v9))))) ∧
   (((v8 : Int) == 0) = false → R (0) (0) (0) (0) (v8))))) :
    ∃ v0 : Int, ∃ v1 : Int, ∃ v2 : Int, ∃ v3 : Int, ∃ v4 : Int, R v0 v1 v2 v3 v4 ∧ Spec Try.prog meter_SamplesOf_s ⟨[x0, x1, x2, x3, x4, x5, x6, x7], [], []⟩ [v0, v1, v2, v3, v4] [] [] :=
  Eq.mp (by kernel_rfl) (exV_of (K := fun d => app3 meter_SamplesOf_s.out R d ∧ Spec Try.prog meter_SamplesOf_s ⟨[x0, x1, x2, x3, x4, x5, x6, x7], [], []⟩ d.1 d.2.1 d.2.2) (tree_at mixed names S1_ok (S := S1 Try.prog) (lf := 100000) (d := 60) meter_SamplesOf_s sob_t { ivs := [], aivs := [] } ⟨[x0, x1, x2, x3, x4, x5, x6, x7], [], []⟩ rfl (by kernel_rfl) (by kernel_rfl) (by kernel_rfl) ⟨fz, fz, fz, fz⟩ (R := fun d => app3 meter_SamplesOf_s.out R d) (Eq.mp (by kernel_rfl) H)))

def rsg_t : Tr :=
  (.call etalonref06_parts_s ⟨[(.var 0), (.var 1), (.lit 10000000)], [], []⟩ ⟨[(.var 0), (.var 1), (.lit 10000000), (.var 8), (.var 9), (.var 10)], [], []⟩ ⟨62, [(.complex .f64 (.var 0) (.var 1)), (.int .i64 (.lit 10000000))], [], [none, none, none, none], (.tuple [(.int .i64 (.var 8)), (.int .i64 (.var 9)), (.int .i64 (.var 10))]), []⟩
  (.rng 8 (-10000000) 10000000 (.rng 9 (-10000000) 10000000 (.ite (.icmp .eql (.var 10) (.lit 0))
  (.call etalonref06_parts_s ⟨[(.var 2), (.var 3), (.lit 10000000)], [], []⟩ ⟨[(.var 2), (.var 3), (.lit 10000000), (.var 11), (.var 12), (.var 13)], [], []⟩ ⟨62, [(.complex .f64 (.var 2) (.var 3)), (.int .i64 (.lit 10000000))], [], [none, none, none, none], (.tuple [(.int .i64 (.var 11)), (.int .i64 (.var 12)), (.int .i64 (.var 13))]), []⟩
   (.rng 11 (-10000000) 10000000 (.rng 12 (-10000000) 10000000 (.ite (.icmp .eql (.var 13) (.lit 0))
   (.call etalonref06_parts_s ⟨[(.var 4), (.var 5), (.lit 10000000)], [], []⟩ ⟨[(.var 4), (.var 5), (.lit 10000000), (.var 14), (.var 15), (.var 16)], [], []⟩ ⟨62, [(.complex .f64 (.var 4) (.var 5)), (.int .i64 (.lit 10000000))], [], [none, none, none, none], (.tuple [(.int .i64 (.var 14)), (.int .i64 (.var 15)), (.int .i64 (.var 16))]), []⟩
    (.rng 14 (-10000000) 10000000 (.rng 15 (-10000000) 10000000 (.ite (.icmp .eql (.var 16) (.lit 0))
    (.call etalonref06_parts_s ⟨[(.var 6), (.var 7), (.lit 10000000)], [], []⟩ ⟨[(.var 6), (.var 7), (.lit 10000000), (.var 17), (.var 18), (.var 19)], [], []⟩ ⟨62, [(.complex .f64 (.var 6) (.var 7)), (.int .i64 (.lit 10000000))], [], [none, none, none, none], (.tuple [(.int .i64 (.var 17)), (.int .i64 (.var 18)), (.int .i64 (.var 19))]), []⟩
     (.rng 17 (-10000000) 10000000 (.rng 18 (-10000000) 10000000 (.ite (.icmp .eql (.var 19) (.lit 0))
     (.ite (.icmp .eql (.bin .addI (.bin .addI (.bin .addI (.var 9) (.var 12)) (.var 15)) (.var 18)) (.lit 0))
      (.ite (.icmp .leq (.lit 0) (.bin .remK (.bin .addI (.bin .addI (.bin .addI (.var 8) (.var 11)) (.var 14)) (.var 17)) (.lit 4)))
       (.ite (.icmp .eql (.bin .remK (.bin .addI (.bin .addI (.bin .addI (.var 8) (.var 11)) (.var 14)) (.var 17)) (.lit 4)) (.lit 0))
        (.ite (.icmp .eql (.bin .addI (.bin .addI (.bin .addI (.var 9) (.var 11)) (.bin .subI (.lit 0) (.var 15))) (.bin .subI (.lit 0) (.var 17))) (.lit 0))
         (.ite (.icmp .leq (.lit 0) (.bin .remK (.bin .addI (.bin .addI (.bin .addI (.var 8) (.bin .subI (.lit 0) (.var 12))) (.bin .subI (.lit 0) (.var 14))) (.bin .subI (.lit 0) (.bin .subI (.lit 0) (.var 18)))) (.lit 4)))
          (.ite (.icmp .eql (.bin .remK (.bin .addI (.bin .addI (.bin .addI (.var 8) (.bin .subI (.lit 0) (.var 12))) (.bin .subI (.lit 0) (.var 14))) (.bin .subI (.lit 0) (.bin .subI (.lit 0) (.var 18)))) (.lit 4)) (.lit 0))
           (.ite (.icmp .eql (.bin .addI (.bin .addI (.bin .addI (.var 9) (.bin .subI (.lit 0) (.var 12))) (.var 15)) (.bin .subI (.lit 0) (.var 18))) (.lit 0))
            (.ite (.icmp .leq (.lit 0) (.bin .remK (.bin .addI (.bin .addI (.bin .addI (.var 8) (.bin .subI (.lit 0) (.var 11))) (.var 14)) (.bin .subI (.lit 0) (.var 17))) (.lit 4)))
             (.ite (.icmp .eql (.bin .remK (.bin .addI (.bin .addI (.bin .addI (.var 8) (.bin .subI (.lit 0) (.var 11))) (.var 14)) (.bin .subI (.lit 0) (.var 17))) (.lit 4)) (.lit 0))
              (.ite (.icmp .eql (.bin .addI (.bin .addI (.bin .addI (.var 9) (.bin .subI (.lit 0) (.var 11))) (.bin .subI (.lit 0) (.var 15))) (.var 17)) (.lit 0))
               (.ite (.icmp .leq (.lit 0) (.bin .remK (.bin .addI (.bin .addI (.bin .addI (.var 8) (.bin .subI (.lit 0) (.bin .subI (.lit 0) (.var 12)))) (.bin .subI (.lit 0) (.var 14))) (.bin .subI (.lit 0) (.var 18))) (.lit 4)))
                (.ite (.icmp .eql (.bin .remK (.bin .addI (.bin .addI (.bin .addI (.var 8) (.bin .subI (.lit 0) (.bin .subI (.lit 0) (.var 12)))) (.bin .subI (.lit 0) (.var 14))) (.bin .subI (.lit 0) (.var 18))) (.lit 4)) (.lit 0))
                 (.ret ⟨[(.bin .quoI (.bin .addI (.bin .addI (.bin .addI (.var 8) (.var 11)) (.var 14)) (.var 17)) (.lit 4)), (.bin .quoI (.bin .addI (.bin .addI (.bin .addI (.var 8) (.bin .subI (.lit 0) (.var 12))) (.bin .subI (.lit 0) (.var 14))) (.bin .subI (.lit 0) (.bin .subI (.lit 0) (.var 18)))) (.lit 4)), (.bin .quoI (.bin .addI (.bin .addI (.bin .addI (.var 8) (.bin .subI (.lit 0) (.var 11))) (.var 14)) (.bin .subI (.lit 0) (.var 17))) (.lit 4)), (.bin .quoI (.bin .addI (.bin .addI (.bin .addI (.var 8) (.bin .subI (.lit 0) (.bin .subI (.lit 0) (.var 12)))) (.bin .subI (.lit 0) (.var 14))) (.bin .subI (.lit 0) (.var 18))) (.lit 4)), (.lit 0)], [], []⟩ [])
                 (.ret ⟨[(.lit 0), (.lit 0), (.lit 0), (.lit 0), (.lit 13)], [], []⟩ []))
                (.ret ⟨[(.lit 0), (.lit 0), (.lit 0), (.lit 0), (.lit 13)], [], []⟩ []))
               (.ret ⟨[(.lit 0), (.lit 0), (.lit 0), (.lit 0), (.lit 13)], [], []⟩ []))
              (.ret ⟨[(.lit 0), (.lit 0), (.lit 0), (.lit 0), (.lit 13)], [], []⟩ []))
             (.ret ⟨[(.lit 0), (.lit 0), (.lit 0), (.lit 0), (.lit 13)], [], []⟩ []))
            (.ret ⟨[(.lit 0), (.lit 0), (.lit 0), (.lit 0), (.lit 13)], [], []⟩ []))
           (.ret ⟨[(.lit 0), (.lit 0), (.lit 0), (.lit 0), (.lit 13)], [], []⟩ []))
          (.ret ⟨[(.lit 0), (.lit 0), (.lit 0), (.lit 0), (.lit 13)], [], []⟩ []))
         (.ret ⟨[(.lit 0), (.lit 0), (.lit 0), (.lit 0), (.lit 13)], [], []⟩ []))
        (.ret ⟨[(.lit 0), (.lit 0), (.lit 0), (.lit 0), (.lit 13)], [], []⟩ []))
       (.ret ⟨[(.lit 0), (.lit 0), (.lit 0), (.lit 0), (.lit 13)], [], []⟩ []))
      (.ret ⟨[(.lit 0), (.lit 0), (.lit 0), (.lit 0), (.lit 13)], [], []⟩ []))
     (.ret ⟨[(.lit 0), (.lit 0), (.lit 0), (.lit 0), (.var 19)], [], []⟩ [])))))
    (.ret ⟨[(.lit 0), (.lit 0), (.lit 0), (.lit 0), (.var 16)], [], []⟩ [])))))
   (.ret ⟨[(.lit 0), (.lit 0), (.lit 0), (.lit 0), (.var 13)], [], []⟩ [])))))
  (.ret ⟨[(.lit 0), (.lit 0), (.lit 0), (.lit 0), (.var 10)], [], []⟩ [])))))
theorem rsg {x0 x1 x2 x3 x4 x5 x6 x7 : Int} {R : Int → Int → Int → Int → Int → Prop}
  (H : (∃ v8 : Int, ∃ v9 : Int, ∃ v10 : Int, Spec Try.prog etalonref06_parts_s ⟨[x0, x1, 10000000], [], []⟩ [v8, v9, v10] [] [] ∧
   (((-10000000) ≤ (v8 : Int) ∧ (v8 : Int) ≤ 10000000) ∧ (((-10000000) ≤ (v9 : Int) ∧ (v9 : Int) ≤ 10000000) ∧ ((((v10 : Int) == 0) = true → (∃ v11 : Int, ∃ v12 : Int, ∃ v13 : Int, Spec Try.prog etalonref06_parts_s ⟨[x2, x3, 10000000], [], []⟩ [v11, v12, v13] [] [] ∧
    (((-10000000) ≤ (v11 : Int) ∧ (v11 : Int) ≤ 10000000) ∧ (((-10000000) ≤ (v12 : Int) ∧ (v12 : Int) ≤ 10000000) ∧ ((((v13 : Int) == 0) = true → (∃ v14 : Int, ∃ v15 : Int, ∃ v16 : Int, Spec Try.prog etalonref06_parts_s ⟨[x4, x5, 10000000], [], []⟩ [v14, v15, v16] [] [] ∧
     (((-10000000) ≤ (v14 : Int) ∧ (v14 : Int) ≤ 10000000) ∧ (((-10000000) ≤ (v15 : Int) ∧ (v15 : Int) ≤ 10000000) ∧ ((((v16 : Int) == 0) = true → (∃ v17 : Int, ∃ v18 : Int, ∃ v19 : Int, Spec Try.prog etalonref06_parts_s ⟨[x6, x7, 10000000], [], []⟩ [v17, v18, v19] [] [] ∧
      (((-10000000) ≤ (v17 : Int) ∧ (v17 : Int) ≤ 10000000) ∧ (((-10000000) ≤ (v18 : Int) ∧ (v18 : Int) ≤ 10000000) ∧ ((((v19 : Int) == 0) = true → (((((((v9 + v12) + v15) + v18) : Int) == 0) = true → ((decide ((0 : Int) ≤ (((((v8 + v11) + v14) + v17) : Int).tmod 4)) = true → (((((((((v8 + v11) + v14) + v17) : Int).tmod 4) : Int) == 0) = true → (((((((v9 + v11) + (0 - v15)) + (0 - v17)) : Int) == 0) = true → ((decide ((0 : Int) ≤ (((((v8 + (0 - v12)) + (0 - v14)) + (0 - (0 - v18))) : Int).tmod 4)) = true → (((((((((v8 + (0 - v12)) + (0 - v14)) + (0 - (0 - v18))) : Int).tmod 4) : Int) == 0) = true → (((((((v9 + (0 - v12)) + v15) + (0 - v18)) : Int) == 0) = true → ((decide ((0 : Int) ≤ (((((v8 + (0 - v11)) + v14) + (0 - v17)) : Int).tmod 4)) = true → (((((((((v8 + (0 - v11)) + v14) + (0 - v17)) : Int).tmod 4) : Int) == 0) = true → (((((((v9 + (0 - v11)) + (0 - v15)) + v17) : Int) == 0) = true → ((decide ((0 : Int) ≤ (((((v8 + (0 - (0 - v12))) + (0 - v14)) + (0 - v18)) : Int).tmod 4)) = true → (((((((((v8 + (0 - (0 - v12))) + (0 - v14)) + (0 - v18)) : Int).tmod 4) : Int) == 0) = true → R ((((((v8 + v11) + v14) + v17) : Int).tdiv 4)) ((((((v8 + (0 - v12)) + (0 - v14)) + (0 - (0 - v18))) : Int).tdiv 4)) ((((((v8 + (0 - v11)) + v14) + (0 - v17)) : Int).tdiv 4)) ((((((v8 + (0 - (0 - v12))) + (0 - v14)) + (0 - v18)) : Int).tdiv 4)) (0)) ∧
                  ((((((((v8 + (0 - (0 - v12))) + (0 - v14)) + (0 - v18)) : Int).tmod 4) : Int) == 0) = false → R (0) (0) (0) (0) (13)))) ∧
                 (decide ((0 : Int) ≤ (((((v8 + (0 - (0 - v12))) + (0 - v14)) + (0 - v18)) : Int).tmod 4)) = false → R (0) (0) (0) (0) (13)))) ∧
                ((((((v9 + (0 - v11)) + (0 - v15)) + v17) : Int) == 0) = false → R (0) (0) (0) (0) (13)))) ∧
               ((((((((v8 + (0 - v11)) + v14) + (0 - v17)) : Int).tmod 4) : Int) == 0) = false → R (0) (0) (0) (0) (13)))) ∧
              (decide ((0 : Int) ≤ (((((v8 + (0 - v11)) + v14) + (0 - v17)) : Int).tmod 4)) = false → R (0) (0) (0) (0) (13)))) ∧
             ((((((v9 + (0 - v12)) + v15) + (0 - v18)) : Int) == 0) = false → R (0) (0) (0) (0) (13)))) ∧
            ((((((((v8 + (0 - v12)) + (0 - v14)) + (0 - (0 - v18))) : Int).tmod 4) : Int) == 0) = false → R (0) (0) (0) (0) (13)))) ∧
           (decide ((0 : Int) ≤ (((((v8 + (0 - v12)) + (0 - v14)) + (0 - (0 - v18))) : Int).tmod 4)) = false → R (0) (0) (0) (0) (13)))) ∧
          ((((((v9 + v11) + (0 - v15)) + (0 - v17)) : Int) == 0) = false → R (0) (0) (0) (0) (13)))) ∧
         ((((((((v8 + v11) + v14) + v17) : Int).tmod 4) : Int) == 0) = false → R (0) (0) (0) (0) (13)))) ∧
        (decide ((0 : Int) ≤ (((((v8 + v11) + v14) + v17) : Int).tmod 4)) = false → R (0) (0) (0) (0) (13)))) ∧
       ((((((v9 + v12) + v15) + v18) : Int) == 0) = false → R (0) (0) (0) (0) (13)))) ∧
      (((v19 : Int) == 0) = false → R (0) (0) (0) (0) (v19))))))) ∧
     (((v16 : Int) == 0) = false → R (0) (0) (0) (0) (v16))))))) ∧
    (((v13 : Int) == 0) = false → R (0) (0) (0) (0) (v13))))))) ∧
   (((v10 : Int) == 0) = false → R (0) (0) (0) (0) (v10))))))) :
    ∃ v0 : Int, ∃ v1 : Int, ∃ v2 : Int, ∃ v3 : Int, ∃ v4 : Int, R v0 v1 v2 v3 v4 ∧ Spec Try.prog etalonref06_SamplesOf_s ⟨[x0, x1, x2, x3, x4, x5, x6, x7], [], []⟩ [v0, v1, v2, v3, v4] [] [] :=
  Eq.mp (by kernel_rfl) (exV_of (K := fun d => app3 etalonref06_SamplesOf_s.out R d ∧ Spec Try.prog etalonref06_SamplesOf_s ⟨[x0, x1, x2, x3, x4, x5, x6, x7], [], []⟩ d.1 d.2.1 d.2.2) (tree_at mixed names S1_ok (S := S1 Try.prog) (lf := 100000) (d := 60) etalonref06_SamplesOf_s rsg_t { ivs := [], aivs := [] } ⟨[x0, x1, x2, x3, x4, x5, x6, x7], [], []⟩ rfl (by kernel_rfl) (by kernel_rfl) (by kernel_rfl) ⟨fz, fz, fz, fz⟩ (R := fun d => app3 etalonref06_SamplesOf_s.out R d) (Eq.mp (by kernel_rfl) H)))

open Go.Lib

theorem base_rs {b : Nat} (hb : U b) : Spec Try.prog etalonbase_IsWhole_s ⟨[(b : Int)], [], []⟩ [] [whB b] [] := Spec.of rfl rfl rfl rfl fun w => base_raw hb w

def ptC (b : Nat) : Int := if whB b then (if bigB b 10000000 then 2 else 0) else 27

theorem part_r {b : Nat} (hb : U b) : ∃ X : Int, (ptC b = 0 → Rp b X) ∧ ((-10000000) ≤ X ∧ X ≤ 10000000) ∧ Spec Try.prog etalonref06_part_s ⟨[(b : Int), 10000000], [], []⟩ [X, ptC b] [] [] := by

  by_cases h : ptC b = 0

  · have hw : whB b = true ∧ bigB b 10000000 = false := by

      unfold ptC at h

      cases g : whB b <;> cases k : bigB b 10000000 <;> simp [g, k] at h ⊢

    obtain ⟨s, m, e, ra⟩ := num_of hb hw.1

    obtain ⟨X, x1, x2⟩ := ra.small (M := 10000000) (by omega) (by omega) hw.1 hw.2

    obtain ⟨v, u, ⟨rfl, rfl⟩, hs⟩ := ptg (x0 := (b : Int)) (x1 := 10000000) (by omega) (R := fun v u => v = X ∧ u = 0) ⟨X, ⟨by simpa using x1, by omega⟩, x2, rfl, rfl⟩

    exact ⟨v, fun _ => x1, x2, by rw [h]; exact hs⟩

  · suffices k : ∃ v u : Int, (v = 0 ∧ u = ptC b) ∧ Spec Try.prog etalonref06_part_s ⟨[(b : Int), 10000000], [], []⟩ [v, u] [] [] by

      obtain ⟨v, u, ⟨rfl, rfl⟩, hs⟩ := k

      exact ⟨0, fun g => absurd g h, by omega, hs⟩

    refine ptb (x0 := (b : Int)) (x1 := 10000000) (by omega) (R := fun v u => v = 0 ∧ u = ptC b) ⟨_, base_rs hb, fun g1 => ?_, fun g1 => ⟨rfl, by simp [ptC, g1]⟩⟩

    obtain ⟨s, m, e, ra⟩ := num_of hb g1

    have ta := ra.big_two (M := 10000000) (by omega) (by omega)

    refine ⟨fun g3 => ?_, fun g3 => ⟨fun g4 => ?_, fun g4 => ?_⟩⟩

    · have g3 : (Ieee.double.order b (fi 10000000) == some .gt) = true := g3

      rw [g3, Bool.true_or] at ta

      exact ⟨rfl, by simp [ptC, g1, ← ta]⟩

    · rw [Int.toNat_natCast, Int.toNat_natCast] at g4

      have g4 : (Ieee.double.order b (fi (-10000000)) == some .lt) = true := g4

      rw [g4, Bool.or_true] at ta

      exact ⟨rfl, by simp [ptC, g1, ← ta]⟩

    · rw [Int.toNat_natCast, Int.toNat_natCast] at g4

      have g3 : (Ieee.double.order b (fi 10000000) == some .gt) = false := g3

      have g4 : (Ieee.double.order b (fi (-10000000)) == some .lt) = false := g4

      rw [g3, g4] at ta

      exact absurd (by simp [ptC, g1, ← ta]) h

theorem ck_pt (a b : Nat) : ckC a b 10000000 = if ptC a = 27 then 27 else if ptC b = 27 then 27 else max (ptC a) (ptC b) := by

  unfold ckC ptC

  cases whB a <;> cases whB b <;> cases bigB a 10000000 <;> cases bigB b 10000000 <;> decide

theorem parts_r {a b : Nat} (ha : U a) (hb : U b) : ∃ X Y : Int, (ckC a b 10000000 = 0 → Rp a X ∧ Rp b Y) ∧ ((-10000000) ≤ X ∧ X ≤ 10000000) ∧ ((-10000000) ≤ Y ∧ Y ≤ 10000000) ∧ Spec Try.prog etalonref06_parts_s ⟨[(a : Int), (b : Int), 10000000], [], []⟩ [X, Y, ckC a b 10000000] [] [] := by

  obtain ⟨X, x1, x2, x3⟩ := part_r ha

  obtain ⟨Y, y1, y2, y3⟩ := part_r hb

  have e := ck_pt a b

  suffices k : ∃ v u w : Int, ((ckC a b 10000000 = 0 → Rp a v ∧ Rp b u) ∧ ((-10000000) ≤ v ∧ v ≤ 10000000) ∧ ((-10000000) ≤ u ∧ u ≤ 10000000) ∧ w = ckC a b 10000000) ∧ Spec Try.prog etalonref06_parts_s ⟨[(a : Int), (b : Int), 10000000], [], []⟩ [v, u, w] [] [] by

    obtain ⟨v, u, w, ⟨k1, k2, k3, rfl⟩, hs⟩ := k

    exact ⟨v, u, k1, k2, k3, hs⟩

  refine pa (x0 := (a : Int)) (x1 := (b : Int)) (x2 := 10000000) (by omega) (R := fun v u w => (ckC a b 10000000 = 0 → Rp a v ∧ Rp b u) ∧ ((-10000000) ≤ v ∧ v ≤ 10000000) ∧ ((-10000000) ≤ u ∧ u ≤ 10000000) ∧ w = ckC a b 10000000) ⟨_, _, x3, _, _, y3, fun g => ?_, fun g => ⟨fun k => ?_, fun k => ?_⟩⟩

  · have g : ptC a = 27 := eq_of_beq g

    rw [if_pos g] at e

    rw [e]; exact ⟨fun h => absurd h (by decide), by omega, by omega, rfl⟩

  · have g : ptC a ≠ 27 := by simpa using g

    have k : ptC b = 27 := eq_of_beq k

    rw [if_neg g, if_pos k] at e

    rw [e]; exact ⟨fun h => absurd h (by decide), by omega, by omega, rfl⟩

  · have g : ptC a ≠ 27 := by simpa using g

    have k : ptC b ≠ 27 := by simpa using k

    rw [if_neg g, if_neg k] at e

    have va : ptC a = 0 ∨ ptC a = 2 ∨ ptC a = 27 := by unfold ptC; split <;> (try split) <;> simp

    have vb : ptC b = 0 ∨ ptC b = 2 ∨ ptC b = 27 := by unfold ptC; split <;> (try split) <;> simp

    exact ⟨fun h => ⟨x1 (by omega), y1 (by omega)⟩, x2, y2, by rw [e]; split <;> omega⟩

theorem tm (x : Int) : (x.tmod 4 = 0) = (x % 4 = 0) := by

  rw [← Int.dvd_iff_tmod_eq_zero, Int.dvd_iff_emod_eq_zero]

theorem tm2 (x : Int) : (0 ≤ x.tmod 4) = (0 ≤ x ∨ x % 4 = 0) := by

  have e := tm x

  apply propext

  constructor

  · intro h

    rcases Int.lt_or_le x 0 with g | g

    · right

      have : 0 ≤ (-x).tmod 4 := Int.tmod_nonneg 4 (by omega)

      rw [Int.neg_tmod] at this

      rw [← e]; omega

    · left; exact g

  · rintro (h | h)

    · exact Int.tmod_nonneg 4 h

    · rw [← e] at h; omega

theorem t4 {x : Int} (h : x % 4 = 0) : x.tdiv 4 * 4 = x := by

  rw [← tm] at h

  have := Int.mul_tdiv_add_tmod x 4

  omega

/-- The sums that are four times the samples, and those that must be 0. -/

def smC (a0 b0 a1 b1 a2 b2 a3 b3 : Int) : Prop := ((a0 + a1 + a2 + a3) % 4 = 0 ∧ b0 + b1 + b2 + b3 = 0) ∧ ((a0 - b1 - a2 + b3) % 4 = 0 ∧ b0 + a1 - b2 - a3 = 0) ∧ ((a0 - a1 + a2 - a3) % 4 = 0 ∧ b0 - b1 + b2 - b3 = 0) ∧ ((a0 + b1 - a2 - b3) % 4 = 0 ∧ b0 - a1 - b2 + a3 = 0)

def smR (a0 b0 a1 b1 a2 b2 a3 b3 v0 v1 v2 v3 v4 : Int) : Prop := (smC a0 b0 a1 b1 a2 b2 a3 b3 ∧ v0 * 4 = a0 + a1 + a2 + a3 ∧ v1 * 4 = a0 - b1 - a2 + b3 ∧ v2 * 4 = a0 - a1 + a2 - a3 ∧ v3 * 4 = a0 + b1 - a2 - b3 ∧ v4 = 0) ∨ (¬ smC a0 b0 a1 b1 a2 b2 a3 b3 ∧ v0 = 0 ∧ v1 = 0 ∧ v2 = 0 ∧ v3 = 0 ∧ v4 = 13)

theorem smR_uniq {a0 b0 a1 b1 a2 b2 a3 b3 v0 v1 v2 v3 v4 w0 w1 w2 w3 w4 : Int} (h : smR a0 b0 a1 b1 a2 b2 a3 b3 v0 v1 v2 v3 v4) (g : smR a0 b0 a1 b1 a2 b2 a3 b3 w0 w1 w2 w3 w4) : v0 = w0 ∧ v1 = w1 ∧ v2 = w2 ∧ v3 = w3 ∧ v4 = w4 := by

  rcases h with ⟨c, h⟩ | ⟨c, h⟩ <;> rcases g with ⟨d, g⟩ | ⟨d, g⟩

  · omega

  · exact absurd c d

  · exact absurd d c

  · omega

set_option maxHeartbeats 4000000 in

theorem good_p {a0 b0 a1 b1 a2 b2 a3 b3 : Nat} (u0 : U a0) (w0 : U b0) (u1 : U a1) (w1 : U b1) (u2 : U a2) (w2 : U b2) (u3 : U a3) (w3 : U b3) {A0 B0 A1 B1 A2 B2 A3 B3 : Int} (p0 : Rp a0 A0) (q0 : Rp b0 B0) (p1 : Rp a1 A1) (q1 : Rp b1 B1) (p2 : Rp a2 A2) (q2 : Rp b2 B2) (p3 : Rp a3 A3) (q3 : Rp b3 B3)

    (i0 : (-10000000) ≤ A0 ∧ A0 ≤ 10000000) (j0 : (-10000000) ≤ B0 ∧ B0 ≤ 10000000) (i1 : (-10000000) ≤ A1 ∧ A1 ≤ 10000000) (j1 : (-10000000) ≤ B1 ∧ B1 ≤ 10000000) (i2 : (-10000000) ≤ A2 ∧ A2 ≤ 10000000) (j2 : (-10000000) ≤ B2 ∧ B2 ≤ 10000000) (i3 : (-10000000) ≤ A3 ∧ A3 ≤ 10000000) (j3 : (-10000000) ≤ B3 ∧ B3 ≤ 10000000)

    (c0 : ckC a0 b0 10000000 = 0) (c1 : ckC a1 b1 10000000 = 0) (c2 : ckC a2 b2 10000000 = 0) (c3 : ckC a3 b3 10000000 = 0) :

    ∃ v0 v1 v2 v3 v4 : Int, smR A0 B0 A1 B1 A2 B2 A3 B3 v0 v1 v2 v3 v4 ∧ Spec Try.prog meter_SamplesOf_s ⟨[(a0 : Int), (b0 : Int), (a1 : Int), (b1 : Int), (a2 : Int), (b2 : Int), (a3 : Int), (b3 : Int)], [], []⟩ [v0, v1, v2, v3, v4] [] [] := by

  have k0 := parts_rs (M := 10000000) u0 w0

  have k1 := parts_rs (M := 10000000) u1 w1

  have k2 := parts_rs (M := 10000000) u2 w2

  have k3 := parts_rs (M := 10000000) u3 w3

  rw [c0] at k0; rw [c1] at k1; rw [c2] at k2; rw [c3] at k3

  refine sog (R := smR A0 B0 A1 B1 A2 B2 A3 B3) ⟨A0, ⟨by simpa using p0, by omega⟩, i0, B0, ⟨by simpa using q0, by omega⟩, j0, A1, ⟨by simpa using p1, by omega⟩, i1, B1, ⟨by simpa using q1, by omega⟩, j1, A2, ⟨by simpa using p2, by omega⟩, i2, B2, ⟨by simpa using q2, by omega⟩, j2, A3, ⟨by simpa using p3, by omega⟩, i3, B3, ⟨by simpa using q3, by omega⟩, j3, _, k0, fun _ => ⟨_, k1, fun _ => ⟨_, k2, fun _ => ⟨_, k3, fun _ => ?_, fun h => absurd h (by decide)⟩, fun h => absurd h (by decide)⟩, fun h => absurd h (by decide)⟩, fun h => absurd h (by decide)⟩

  simp only [beq_iff_eq, beq_eq_false_iff_ne, ne_eq, tm]

  clear k0 k1 k2 k3 p0 q0 p1 q1 p2 q2 p3 q3 c0 c1 c2 c3

  repeat' (first

    | (refine Or.inl ⟨?_, (t4 (by assumption)).trans (by omega), (t4 (by assumption)).trans (by omega), (t4 (by assumption)).trans (by omega), (t4 (by assumption)).trans (by omega), rfl⟩; unfold smC; omega)

    | (refine Or.inr ⟨?_, rfl, rfl, rfl, rfl, rfl⟩; unfold smC; omega)

    | apply And.intro

    | intro _

    | fail)

end Go.Proofs.Ytpjcjdhidfnbbaa.Ev
