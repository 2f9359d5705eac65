/- Balls of ranges and fractions; BallMakes. -/
import Derived.Test.YtgdhpgjfebinhaaFbl
namespace Go.Proofs.Ytgdhpgjfebinhaa.Ev
set_option linter.unusedSimpArgs false
open Go Go.RowKit
set_option linter.unusedVariables false
set_option maxRecDepth 100000
def ball_OfRange_s : Sig := ⟨17, ⟨2, 0, 0⟩, ⟨4, 0, 0⟩, [(.agg [(.int .i64 (.var 0)), (.int .i64 (.var 1))])], [], (.tuple [(.agg [(.complex .f64 (.var 2) (.var 3)), (.int .i64 (.var 4))]), (.int .i64 (.var 5))]), []⟩
def ball_OfFrac_s : Sig := ⟨18, ⟨2, 0, 0⟩, ⟨4, 0, 0⟩, [(.int .i64 (.var 0)), (.int .i64 (.var 1))], [], (.tuple [(.agg [(.complex .f64 (.var 2) (.var 3)), (.int .i64 (.var 4))]), (.int .i64 (.var 5))]), []⟩
def etalonref01_OfRange_s : Sig := ⟨19, ⟨2, 0, 0⟩, ⟨4, 0, 0⟩, [(.agg [(.int .i64 (.var 0)), (.int .i64 (.var 1))])], [], (.tuple [(.agg [(.int .i64 (.var 2)), (.int .i64 (.var 3)), (.int .i64 (.var 4))]), (.int .i64 (.var 5))]), []⟩
def etalonref01_OfFrac_s : Sig := ⟨20, ⟨2, 0, 0⟩, ⟨4, 0, 0⟩, [(.int .i64 (.var 0)), (.int .i64 (.var 1))], [], (.tuple [(.agg [(.int .i64 (.var 2)), (.int .i64 (.var 3)), (.int .i64 (.var 4))]), (.int .i64 (.var 5))]), []⟩
def etalonlaw01_BallMakes_s : Sig := ⟨3, ⟨4, 0, 0⟩, ⟨0, 1, 0⟩, [(.agg [(.int .i64 (.var 0)), (.int .i64 (.var 1))]), (.int .i64 (.var 2)), (.int .i64 (.var 3))], [], (.bool (.var 0)), []⟩

def ofr_t : Tr :=
  (.call span_Check_s ⟨[(.var 0), (.var 1), (.lit (-67108864)), (.lit 67108864)], [], []⟩ ⟨[(.var 0), (.var 1), (.lit (-67108864)), (.lit 67108864), (.var 2)], [], []⟩ ⟨64, [(.agg [(.int .i64 (.var 0)), (.int .i64 (.var 1))]), (.int .i64 (.lit (-67108864))), (.int .i64 (.lit 67108864))], [], [none, none], (.int .i64 (.var 2)), []⟩
  (.ite (.icmp .eql (.var 2) (.lit 0))
  (.call whole_Lower_s ⟨[(.bin .addI (.var 0) (.var 1)), (.lit 1), (.lit 2)], [], []⟩ ⟨[(.bin .addI (.var 0) (.var 1)), (.lit 1), (.lit 2), (.var 3)], [], []⟩ ⟨65, [(.int .i64 (.bin .addI (.var 0) (.var 1))), (.int .i64 (.lit 1)), (.int .i64 (.lit 2))], [], [none, none], (.int .i64 (.var 3)), []⟩
   (.rng 3 (-67108864) 67108864 (.ite (.icmp .leq (.bin .subI (.var 1) (.var 3)) (.lit 67108864))
   (.ret ⟨[(.toF .f64 (.var 3)), (.lit 0), (.bin .subI (.var 1) (.var 3)), (.lit 0)], [], []⟩ [])
   (.ret ⟨[(.lit 0), (.lit 0), (.lit 0), (.lit 8)], [], []⟩ []))))
  (.ret ⟨[(.lit 0), (.lit 0), (.lit 0), (.var 2)], [], []⟩ [])))
theorem ofr {x0 x1 : Int} (r0 : (-67108864) ≤ x0 ∧ x0 ≤ 67108864) (r1 : (-67108864) ≤ x1 ∧ x1 ≤ 67108864) {R : Int → Int → Int → Int → Prop}
  (H : (∃ v2 : Int, Spec Try.prog span_Check_s ⟨[x0, x1, (-67108864), 67108864], [], []⟩ [v2] [] [] ∧
   ((((v2 : Int) == 0) = true → (∃ v3 : Int, Spec Try.prog whole_Lower_s ⟨[(x0 + x1), 1, 2], [], []⟩ [v3] [] [] ∧
    (((-67108864) ≤ (v3 : Int) ∧ (v3 : Int) ≤ 67108864) ∧ ((decide (((x1 - v3) : Int) ≤ 67108864) = true → R (((FloatKind.f64.nearest v3 : Nat) : Int)) (0) ((x1 - v3)) (0)) ∧
    (decide (((x1 - v3) : Int) ≤ 67108864) = false → R (0) (0) (0) (8)))))) ∧
   (((v2 : Int) == 0) = false → R (0) (0) (0) (v2))))) :
    ∃ v0 : Int, ∃ v1 : Int, ∃ v2 : Int, ∃ v3 : Int, R v0 v1 v2 v3 ∧ Spec Try.prog ball_OfRange_s ⟨[x0, x1], [], []⟩ [v0, v1, v2, v3] [] [] :=
  Eq.mp (by kernel_rfl) (exV_of (K := fun d => app3 ball_OfRange_s.out R d ∧ Spec Try.prog ball_OfRange_s ⟨[x0, x1], [], []⟩ d.1 d.2.1 d.2.2) (tree_at mixed names S1_ok (S := S1 Try.prog) (lf := 100000) (d := 60) ball_OfRange_s ofr_t { ivs := [(0, (-67108864), 67108864), (1, (-67108864), 67108864)], aivs := [] } ⟨[x0, x1], [], []⟩ rfl (by kernel_rfl) (by kernel_rfl) (by kernel_rfl) ⟨(fc r0 (fc r1 fz)), fz, fz, fz⟩ (R := fun d => app3 ball_OfRange_s.out R d) (Eq.mp (by kernel_rfl) H)))

def ofb_t : Tr :=
  (.call span_Check_s ⟨[(.var 0), (.var 1), (.lit (-67108864)), (.lit 67108864)], [], []⟩ ⟨[(.var 0), (.var 1), (.lit (-67108864)), (.lit 67108864), (.var 2)], [], []⟩ ⟨64, [(.agg [(.int .i64 (.var 0)), (.int .i64 (.var 1))]), (.int .i64 (.lit (-67108864))), (.int .i64 (.lit 67108864))], [], [none, none], (.int .i64 (.var 2)), []⟩
  (.ite (.icmp .eql (.var 2) (.lit 0))
  .nil
  (.ret ⟨[(.lit 0), (.lit 0), (.lit 0), (.var 2)], [], []⟩ [])))
theorem ofb {x0 x1 : Int} (r0 : (-9223372036854775808) ≤ x0 ∧ x0 ≤ 9223372036854775807) (r1 : (-9223372036854775808) ≤ x1 ∧ x1 ≤ 9223372036854775807) {R : Int → Int → Int → Int → Prop}
  (H : (∃ v2 : Int, Spec Try.prog span_Check_s ⟨[x0, x1, (-67108864), 67108864], [], []⟩ [v2] [] [] ∧
   ((((v2 : Int) == 0) = true → False) ∧
   (((v2 : Int) == 0) = false → R (0) (0) (0) (v2))))) :
    ∃ v0 : Int, ∃ v1 : Int, ∃ v2 : Int, ∃ v3 : Int, R v0 v1 v2 v3 ∧ Spec Try.prog ball_OfRange_s ⟨[x0, x1], [], []⟩ [v0, v1, v2, v3] [] [] :=
  Eq.mp (by kernel_rfl) (exV_of (K := fun d => app3 ball_OfRange_s.out R d ∧ Spec Try.prog ball_OfRange_s ⟨[x0, x1], [], []⟩ d.1 d.2.1 d.2.2) (tree_at mixed names S1_ok (S := S1 Try.prog) (lf := 100000) (d := 60) ball_OfRange_s ofb_t { ivs := [(0, (-9223372036854775808), 9223372036854775807), (1, (-9223372036854775808), 9223372036854775807)], aivs := [] } ⟨[x0, x1], [], []⟩ rfl (by kernel_rfl) (by kernel_rfl) (by kernel_rfl) ⟨(fc r0 (fc r1 fz)), fz, fz, fz⟩ (R := fun d => app3 ball_OfRange_s.out R d) (Eq.mp (by kernel_rfl) H)))

def off_t : Tr :=
  (.ite (.icmp .leq (.lit (-1000000000)) (.var 0))
  (.ite (.icmp .leq (.var 0) (.lit 1000000000))
   (.ite (.icmp .leq (.lit 1) (.var 1))
    (.ite (.icmp .leq (.var 1) (.lit 1000000000))
     (.call whole_Nearest_s ⟨[(.var 0), (.lit 1048576), (.var 1)], [], []⟩ ⟨[(.var 0), (.lit 1048576), (.var 1), (.var 2)], [(.var 0)], []⟩ ⟨130, [(.int .i64 (.var 0)), (.int .i64 (.lit 1048576)), (.int .i64 (.var 1))], [], [none, none], (.tuple [(.int .i64 (.var 2)), (.bool (.var 0))]), []⟩
      (.rng 2 (-1048576000000000) 1048576000000000 (.call whole_Nearest_s ⟨[(.lit 0), (.lit 1048576), (.var 1)], [], []⟩ ⟨[(.lit 0), (.lit 1048576), (.var 1), (.var 3)], [(.var 1)], []⟩ ⟨130, [(.int .i64 (.lit 0)), (.int .i64 (.lit 1048576)), (.int .i64 (.var 1))], [], [none, none], (.tuple [(.int .i64 (.var 3)), (.bool (.var 1))]), []⟩
      (.rng 3 (-1048576000000000) 1048576000000000 (.ite (.var 0)
      (.ite (.var 1)
       (.ite (.icmp .leq (.lit (-67108864)) (.var 2))
        (.ite (.icmp .leq (.var 2) (.lit 67108864))
         (.ite (.icmp .leq (.lit (-67108864)) (.var 3))
          (.ite (.icmp .leq (.var 3) (.lit 67108864))
           (.ret ⟨[(.toF .f64 (.var 2)), (.toF .f64 (.var 3)), (.lit 0), (.lit 0)], [], []⟩ [])
           (.ret ⟨[(.lit 0), (.lit 0), (.lit 0), (.lit 8)], [], []⟩ []))
          (.ret ⟨[(.lit 0), (.lit 0), (.lit 0), (.lit 8)], [], []⟩ []))
         (.ret ⟨[(.lit 0), (.lit 0), (.lit 0), (.lit 8)], [], []⟩ []))
        (.ret ⟨[(.lit 0), (.lit 0), (.lit 0), (.lit 8)], [], []⟩ []))
       (.ite (.icmp .leq (.lit (-67108864)) (.var 2))
        (.ite (.icmp .leq (.var 2) (.lit 67108864))
         (.ite (.icmp .leq (.lit (-67108864)) (.var 3))
          (.ite (.icmp .leq (.var 3) (.lit 67108864))
           (.ret ⟨[(.toF .f64 (.var 2)), (.toF .f64 (.var 3)), (.lit 1), (.lit 0)], [], []⟩ [])
           (.ret ⟨[(.lit 0), (.lit 0), (.lit 0), (.lit 8)], [], []⟩ []))
          (.ret ⟨[(.lit 0), (.lit 0), (.lit 0), (.lit 8)], [], []⟩ []))
         (.ret ⟨[(.lit 0), (.lit 0), (.lit 0), (.lit 8)], [], []⟩ []))
        (.ret ⟨[(.lit 0), (.lit 0), (.lit 0), (.lit 8)], [], []⟩ [])))
      (.ite (.icmp .leq (.lit (-67108864)) (.var 2))
       (.ite (.icmp .leq (.var 2) (.lit 67108864))
        (.ite (.icmp .leq (.lit (-67108864)) (.var 3))
         (.ite (.icmp .leq (.var 3) (.lit 67108864))
          (.ret ⟨[(.toF .f64 (.var 2)), (.toF .f64 (.var 3)), (.lit 1), (.lit 0)], [], []⟩ [])
          (.ret ⟨[(.lit 0), (.lit 0), (.lit 0), (.lit 8)], [], []⟩ []))
         (.ret ⟨[(.lit 0), (.lit 0), (.lit 0), (.lit 8)], [], []⟩ []))
        (.ret ⟨[(.lit 0), (.lit 0), (.lit 0), (.lit 8)], [], []⟩ []))
       (.ret ⟨[(.lit 0), (.lit 0), (.lit 0), (.lit 8)], [], []⟩ [])))))))
     (.ret ⟨[(.lit 0), (.lit 0), (.lit 0), (.lit 2)], [], []⟩ []))
    (.ret ⟨[(.lit 0), (.lit 0), (.lit 0), (.lit 2)], [], []⟩ []))
   (.ret ⟨[(.lit 0), (.lit 0), (.lit 0), (.lit 2)], [], []⟩ []))
  (.ret ⟨[(.lit 0), (.lit 0), (.lit 0), (.lit 2)], [], []⟩ []))
theorem off {x0 x1 : Int} (r0 : (-9223372036854775808) ≤ x0 ∧ x0 ≤ 9223372036854775807) (r1 : (-9223372036854775808) ≤ x1 ∧ x1 ≤ 9223372036854775807) {R : Int → Int → Int → Int → Prop}
  (H : ((decide (((-1000000000) : Int) ≤ x0) = true → ((decide ((x0 : Int) ≤ 1000000000) = true → ((decide ((1 : Int) ≤ x1) = true → ((decide ((x1 : Int) ≤ 1000000000) = true → (∃ v2 : Int, ∃ u0 : Bool, Spec Try.prog whole_Nearest_s ⟨[x0, 1048576, x1], [], []⟩ [v2] [u0] [] ∧
       (((-1048576000000000) ≤ (v2 : Int) ∧ (v2 : Int) ≤ 1048576000000000) ∧ (∃ v3 : Int, ∃ u1 : Bool, Spec Try.prog whole_Nearest_s ⟨[0, 1048576, x1], [], []⟩ [v3] [u1] [] ∧
       (((-1048576000000000) ≤ (v3 : Int) ∧ (v3 : Int) ≤ 1048576000000000) ∧ ((u0 = true → ((u1 = true → ((decide (((-67108864) : Int) ≤ v2) = true → ((decide ((v2 : Int) ≤ 67108864) = true → ((decide (((-67108864) : Int) ≤ v3) = true → ((decide ((v3 : Int) ≤ 67108864) = true → R (((FloatKind.f64.nearest v2 : Nat) : Int)) (((FloatKind.f64.nearest v3 : Nat) : Int)) (0) (0)) ∧
            (decide ((v3 : Int) ≤ 67108864) = false → R (0) (0) (0) (8)))) ∧
           (decide (((-67108864) : Int) ≤ v3) = false → R (0) (0) (0) (8)))) ∧
          (decide ((v2 : Int) ≤ 67108864) = false → R (0) (0) (0) (8)))) ∧
         (decide (((-67108864) : Int) ≤ v2) = false → R (0) (0) (0) (8)))) ∧
        (u1 = false → ((decide (((-67108864) : Int) ≤ v2) = true → ((decide ((v2 : Int) ≤ 67108864) = true → ((decide (((-67108864) : Int) ≤ v3) = true → ((decide ((v3 : Int) ≤ 67108864) = true → R (((FloatKind.f64.nearest v2 : Nat) : Int)) (((FloatKind.f64.nearest v3 : Nat) : Int)) (1) (0)) ∧
            (decide ((v3 : Int) ≤ 67108864) = false → R (0) (0) (0) (8)))) ∧
           (decide (((-67108864) : Int) ≤ v3) = false → R (0) (0) (0) (8)))) ∧
          (decide ((v2 : Int) ≤ 67108864) = false → R (0) (0) (0) (8)))) ∧
         (decide (((-67108864) : Int) ≤ v2) = false → R (0) (0) (0) (8)))))) ∧
       (u0 = false → ((decide (((-67108864) : Int) ≤ v2) = true → ((decide ((v2 : Int) ≤ 67108864) = true → ((decide (((-67108864) : Int) ≤ v3) = true → ((decide ((v3 : Int) ≤ 67108864) = true → R (((FloatKind.f64.nearest v2 : Nat) : Int)) (((FloatKind.f64.nearest v3 : Nat) : Int)) (1) (0)) ∧
           (decide ((v3 : Int) ≤ 67108864) = false → R (0) (0) (0) (8)))) ∧
          (decide (((-67108864) : Int) ≤ v3) = false → R (0) (0) (0) (8)))) ∧
         (decide ((v2 : Int) ≤ 67108864) = false → R (0) (0) (0) (8)))) ∧
        (decide (((-67108864) : Int) ≤ v2) = false → R (0) (0) (0) (8)))))))))) ∧
      (decide ((x1 : Int) ≤ 1000000000) = false → R (0) (0) (0) (2)))) ∧
     (decide ((1 : Int) ≤ x1) = false → R (0) (0) (0) (2)))) ∧
    (decide ((x0 : Int) ≤ 1000000000) = false → R (0) (0) (0) (2)))) ∧
   (decide (((-1000000000) : Int) ≤ x0) = false → R (0) (0) (0) (2)))) :
    ∃ v0 : Int, ∃ v1 : Int, ∃ v2 : Int, ∃ v3 : Int, R v0 v1 v2 v3 ∧ Spec Try.prog ball_OfFrac_s ⟨[x0, x1], [], []⟩ [v0, v1, v2, v3] [] [] :=
  Eq.mp (by kernel_rfl) (exV_of (K := fun d => app3 ball_OfFrac_s.out R d ∧ Spec Try.prog ball_OfFrac_s ⟨[x0, x1], [], []⟩ d.1 d.2.1 d.2.2) (tree_at mixed names S1_ok (S := S1 Try.prog) (lf := 100000) (d := 60) ball_OfFrac_s off_t { ivs := [(0, (-9223372036854775808), 9223372036854775807), (1, (-9223372036854775808), 9223372036854775807)], aivs := [] } ⟨[x0, x1], [], []⟩ rfl (by kernel_rfl) (by kernel_rfl) (by kernel_rfl) ⟨(fc r0 (fc r1 fz)), fz, fz, fz⟩ (R := fun d => app3 ball_OfFrac_s.out R d) (Eq.mp (by kernel_rfl) H)))

def rof_t : Tr :=
  (.ite (.icmp .leq (.lit (-67108864)) (.var 0))
  (.ite (.icmp .leq (.var 0) (.lit 67108864))
   (.ite (.icmp .leq (.lit (-67108864)) (.var 1))
    (.ite (.icmp .leq (.var 1) (.lit 67108864))
     (.ite (.icmp .leq (.var 0) (.var 1))
      (.call etalonbase_Floor_s ⟨[(.bin .addI (.var 0) (.var 1)), (.lit 2)], [], []⟩ ⟨[(.bin .addI (.var 0) (.var 1)), (.lit 2), (.var 2)], [], []⟩ ⟨55, [(.int .i64 (.bin .addI (.var 0) (.var 1))), (.int .i64 (.lit 2))], [], [none, none], (.int .i64 (.var 2)), []⟩
       (.rng 2 (-67108864) 67108864 (.call _etalonref01_B__Checked_s ⟨[(.var 2), (.lit 0), (.bin .subI (.var 1) (.var 2))], [], []⟩ ⟨[(.var 2), (.lit 0), (.bin .subI (.var 1) (.var 2)), (.var 3), (.var 4), (.var 5), (.var 6)], [], []⟩ ⟨72, [(.agg [(.int .i64 (.var 2)), (.int .i64 (.lit 0)), (.int .i64 (.bin .subI (.var 1) (.var 2)))])], [], [none, none], (.tuple [(.agg [(.int .i64 (.var 3)), (.int .i64 (.var 4)), (.int .i64 (.var 5))]), (.int .i64 (.var 6))]), []⟩
       (.ret ⟨[(.var 3), (.var 4), (.var 5), (.var 6)], [], []⟩ []))))
      (.ret ⟨[(.lit 0), (.lit 0), (.lit 0), (.lit 10)], [], []⟩ []))
     (.ret ⟨[(.lit 0), (.lit 0), (.lit 0), (.lit 2)], [], []⟩ []))
    (.ret ⟨[(.lit 0), (.lit 0), (.lit 0), (.lit 2)], [], []⟩ []))
   (.ret ⟨[(.lit 0), (.lit 0), (.lit 0), (.lit 2)], [], []⟩ []))
  (.ret ⟨[(.lit 0), (.lit 0), (.lit 0), (.lit 2)], [], []⟩ []))
theorem rof {x0 x1 : Int} (r0 : (-9223372036854775808) ≤ x0 ∧ x0 ≤ 9223372036854775807) (r1 : (-9223372036854775808) ≤ x1 ∧ x1 ≤ 9223372036854775807) {R : Int → Int → Int → Int → Prop}
  (H : ((decide (((-67108864) : Int) ≤ x0) = true → ((decide ((x0 : Int) ≤ 67108864) = true → ((decide (((-67108864) : Int) ≤ x1) = true → ((decide ((x1 : Int) ≤ 67108864) = true → ((decide ((x0 : Int) ≤ x1) = true → (∃ v2 : Int, Spec Try.prog etalonbase_Floor_s ⟨[(x0 + x1), 2], [], []⟩ [v2] [] [] ∧
        (((-67108864) ≤ (v2 : Int) ∧ (v2 : Int) ≤ 67108864) ∧ (∃ v3 : Int, ∃ v4 : Int, ∃ v5 : Int, ∃ v6 : Int, Spec Try.prog _etalonref01_B__Checked_s ⟨[v2, 0, (x1 - v2)], [], []⟩ [v3, v4, v5, v6] [] [] ∧
        R (v3) (v4) (v5) (v6))))) ∧
       (decide ((x0 : Int) ≤ x1) = false → R (0) (0) (0) (10)))) ∧
      (decide ((x1 : Int) ≤ 67108864) = false → R (0) (0) (0) (2)))) ∧
     (decide (((-67108864) : Int) ≤ x1) = false → R (0) (0) (0) (2)))) ∧
    (decide ((x0 : Int) ≤ 67108864) = false → R (0) (0) (0) (2)))) ∧
   (decide (((-67108864) : Int) ≤ x0) = false → R (0) (0) (0) (2)))) :
    ∃ v0 : Int, ∃ v1 : Int, ∃ v2 : Int, ∃ v3 : Int, R v0 v1 v2 v3 ∧ Spec Try.prog etalonref01_OfRange_s ⟨[x0, x1], [], []⟩ [v0, v1, v2, v3] [] [] :=
  Eq.mp (by kernel_rfl) (exV_of (K := fun d => app3 etalonref01_OfRange_s.out R d ∧ Spec Try.prog etalonref01_OfRange_s ⟨[x0, x1], [], []⟩ d.1 d.2.1 d.2.2) (tree_at mixed names S1_ok (S := S1 Try.prog) (lf := 100000) (d := 60) etalonref01_OfRange_s rof_t { ivs := [(0, (-9223372036854775808), 9223372036854775807), (1, (-9223372036854775808), 9223372036854775807)], aivs := [] } ⟨[x0, x1], [], []⟩ rfl (by kernel_rfl) (by kernel_rfl) (by kernel_rfl) ⟨(fc r0 (fc r1 fz)), fz, fz, fz⟩ (R := fun d => app3 etalonref01_OfRange_s.out R d) (Eq.mp (by kernel_rfl) H)))

def roff_t : Tr :=
  (.ite (.icmp .leq (.lit (-1000000000)) (.var 0))
  (.ite (.icmp .leq (.var 0) (.lit 1000000000))
   (.ite (.icmp .leq (.lit 1) (.var 1))
    (.ite (.icmp .leq (.var 1) (.lit 1000000000))
     (.call etalonref01_scaledRounded_s ⟨[(.var 0), (.var 1)], [], []⟩ ⟨[(.var 0), (.var 1), (.var 2)], [(.var 0)], []⟩ ⟨73, [(.int .i64 (.var 0)), (.int .i64 (.var 1))], [], [none], (.tuple [(.int .i64 (.var 2)), (.bool (.var 0))]), []⟩
      (.rng 2 (-1048576000000001) 1048576000000001 (.ite (.var 0)
      (.call _etalonref01_B__Checked_s ⟨[(.var 2), (.lit 0), (.lit 1)], [], []⟩ ⟨[(.var 2), (.lit 0), (.lit 1), (.var 3), (.var 4), (.var 5), (.var 6)], [], []⟩ ⟨72, [(.agg [(.int .i64 (.var 2)), (.int .i64 (.lit 0)), (.int .i64 (.lit 1))])], [], [none], (.tuple [(.agg [(.int .i64 (.var 3)), (.int .i64 (.var 4)), (.int .i64 (.var 5))]), (.int .i64 (.var 6))]), []⟩
       (.ret ⟨[(.var 3), (.var 4), (.var 5), (.var 6)], [], []⟩ []))
      (.call _etalonref01_B__Checked_s ⟨[(.var 2), (.lit 0), (.lit 0)], [], []⟩ ⟨[(.var 2), (.lit 0), (.lit 0), (.var 3), (.var 4), (.var 5), (.var 6)], [], []⟩ ⟨72, [(.agg [(.int .i64 (.var 2)), (.int .i64 (.lit 0)), (.int .i64 (.lit 0))])], [], [none], (.tuple [(.agg [(.int .i64 (.var 3)), (.int .i64 (.var 4)), (.int .i64 (.var 5))]), (.int .i64 (.var 6))]), []⟩
       (.ret ⟨[(.var 3), (.var 4), (.var 5), (.var 6)], [], []⟩ [])))))
     (.ret ⟨[(.lit 0), (.lit 0), (.lit 0), (.lit 2)], [], []⟩ []))
    (.ret ⟨[(.lit 0), (.lit 0), (.lit 0), (.lit 2)], [], []⟩ []))
   (.ret ⟨[(.lit 0), (.lit 0), (.lit 0), (.lit 2)], [], []⟩ []))
  (.ret ⟨[(.lit 0), (.lit 0), (.lit 0), (.lit 2)], [], []⟩ []))
theorem roff {x0 x1 : Int} (r0 : (-9223372036854775808) ≤ x0 ∧ x0 ≤ 9223372036854775807) (r1 : (-9223372036854775808) ≤ x1 ∧ x1 ≤ 9223372036854775807) {R : Int → Int → Int → Int → Prop}
  (H : ((decide (((-1000000000) : Int) ≤ x0) = true → ((decide ((x0 : Int) ≤ 1000000000) = true → ((decide ((1 : Int) ≤ x1) = true → ((decide ((x1 : Int) ≤ 1000000000) = true → (∃ v2 : Int, ∃ u0 : Bool, Spec Try.prog etalonref01_scaledRounded_s ⟨[x0, x1], [], []⟩ [v2] [u0] [] ∧
       (((-1048576000000001) ≤ (v2 : Int) ∧ (v2 : Int) ≤ 1048576000000001) ∧ ((u0 = true → (∃ v3 : Int, ∃ v4 : Int, ∃ v5 : Int, ∃ v6 : Int, Spec Try.prog _etalonref01_B__Checked_s ⟨[v2, 0, 1], [], []⟩ [v3, v4, v5, v6] [] [] ∧
        R (v3) (v4) (v5) (v6))) ∧
       (u0 = false → (∃ v3 : Int, ∃ v4 : Int, ∃ v5 : Int, ∃ v6 : Int, Spec Try.prog _etalonref01_B__Checked_s ⟨[v2, 0, 0], [], []⟩ [v3, v4, v5, v6] [] [] ∧
        R (v3) (v4) (v5) (v6))))))) ∧
      (decide ((x1 : Int) ≤ 1000000000) = false → R (0) (0) (0) (2)))) ∧
     (decide ((1 : Int) ≤ x1) = false → R (0) (0) (0) (2)))) ∧
    (decide ((x0 : Int) ≤ 1000000000) = false → R (0) (0) (0) (2)))) ∧
   (decide (((-1000000000) : Int) ≤ x0) = false → R (0) (0) (0) (2)))) :
    ∃ v0 : Int, ∃ v1 : Int, ∃ v2 : Int, ∃ v3 : Int, R v0 v1 v2 v3 ∧ Spec Try.prog etalonref01_OfFrac_s ⟨[x0, x1], [], []⟩ [v0, v1, v2, v3] [] [] :=
  Eq.mp (by kernel_rfl) (exV_of (K := fun d => app3 etalonref01_OfFrac_s.out R d ∧ Spec Try.prog etalonref01_OfFrac_s ⟨[x0, x1], [], []⟩ d.1 d.2.1 d.2.2) (tree_at mixed names S1_ok (S := S1 Try.prog) (lf := 100000) (d := 60) etalonref01_OfFrac_s roff_t { ivs := [(0, (-9223372036854775808), 9223372036854775807), (1, (-9223372036854775808), 9223372036854775807)], aivs := [] } ⟨[x0, x1], [], []⟩ rfl (by kernel_rfl) (by kernel_rfl) (by kernel_rfl) ⟨(fc r0 (fc r1 fz)), fz, fz, fz⟩ (R := fun d => app3 etalonref01_OfFrac_s.out R d) (Eq.mp (by kernel_rfl) H)))

def bmk_t : Tr :=
  (.call etalonlaw01_awake_s ⟨[], [], []⟩ ⟨[], [(.var 0)], []⟩ ⟨16, [], [], [none], (.bool (.var 0)), []⟩
  (.ite (.var 0)
  (.call ball_OfRange_s ⟨[(.var 0), (.var 1)], [], []⟩ ⟨[(.var 0), (.var 1), (.var 4), (.var 5), (.var 6), (.var 7)], [], []⟩ ⟨17, [(.agg [(.int .i64 (.var 0)), (.int .i64 (.var 1))])], [], [none], (.tuple [(.agg [(.complex .f64 (.var 4) (.var 5)), (.int .i64 (.var 6))]), (.int .i64 (.var 7))]), []⟩
   (.call ball_OfFrac_s ⟨[(.var 2), (.var 3)], [], []⟩ ⟨[(.var 2), (.var 3), (.var 8), (.var 9), (.var 10), (.var 11)], [], []⟩ ⟨18, [(.int .i64 (.var 2)), (.int .i64 (.var 3))], [], [none, none], (.tuple [(.agg [(.complex .f64 (.var 8) (.var 9)), (.int .i64 (.var 10))]), (.int .i64 (.var 11))]), []⟩
   (.call etalonref01_OfRange_s ⟨[(.var 0), (.var 1)], [], []⟩ ⟨[(.var 0), (.var 1), (.var 12), (.var 13), (.var 14), (.var 15)], [], []⟩ ⟨19, [(.agg [(.int .i64 (.var 0)), (.int .i64 (.var 1))])], [], [none, none, none], (.tuple [(.agg [(.int .i64 (.var 12)), (.int .i64 (.var 13)), (.int .i64 (.var 14))]), (.int .i64 (.var 15))]), []⟩
   (.call etalonref01_OfFrac_s ⟨[(.var 2), (.var 3)], [], []⟩ ⟨[(.var 2), (.var 3), (.var 16), (.var 17), (.var 18), (.var 19)], [], []⟩ ⟨20, [(.int .i64 (.var 2)), (.int .i64 (.var 3))], [], [none, none, none, none], (.tuple [(.agg [(.int .i64 (.var 16)), (.int .i64 (.var 17)), (.int .i64 (.var 18))]), (.int .i64 (.var 19))]), []⟩
   (.call etalonlaw01_is_s ⟨[(.var 4), (.var 5), (.var 6), (.var 7), (.var 12), (.var 13), (.var 14), (.var 15)], [], []⟩ ⟨[(.var 4), (.var 5), (.var 6), (.var 7), (.var 12), (.var 13), (.var 14), (.var 15)], [(.var 1)], []⟩ ⟨21, [(.agg [(.complex .f64 (.var 4) (.var 5)), (.int .i64 (.var 6))]), (.int .i64 (.var 7)), (.agg [(.int .i64 (.var 12)), (.int .i64 (.var 13)), (.int .i64 (.var 14))]), (.int .i64 (.var 15))], [], [none, none, none, none, none], (.bool (.var 1)), []⟩
   (.ite (.var 1)
   (.call etalonlaw01_is_s ⟨[(.var 8), (.var 9), (.var 10), (.var 11), (.var 16), (.var 17), (.var 18), (.var 19)], [], []⟩ ⟨[(.var 8), (.var 9), (.var 10), (.var 11), (.var 16), (.var 17), (.var 18), (.var 19)], [(.var 2)], []⟩ ⟨21, [(.agg [(.complex .f64 (.var 8) (.var 9)), (.int .i64 (.var 10))]), (.int .i64 (.var 11)), (.agg [(.int .i64 (.var 16)), (.int .i64 (.var 17)), (.int .i64 (.var 18))]), (.int .i64 (.var 19))], [], [none, none, none, none, none], (.bool (.var 2)), []⟩
    (.ret ⟨[], [(.var 2)], []⟩ []))
   (.ret ⟨[], [(.lit false)], []⟩ [])))))))
  (.ret ⟨[], [(.lit false)], []⟩ [])))
theorem bmk {x0 x1 x2 x3 : Int} (r0 : (-9223372036854775808) ≤ x0 ∧ x0 ≤ 9223372036854775807) (r1 : (-9223372036854775808) ≤ x1 ∧ x1 ≤ 9223372036854775807) (r2 : (-9223372036854775808) ≤ x2 ∧ x2 ≤ 9223372036854775807) (r3 : (-9223372036854775808) ≤ x3 ∧ x3 ≤ 9223372036854775807) {R : Bool → Prop}
  (H : (∃ u0 : Bool, Spec Try.prog etalonlaw01_awake_s ⟨[], [], []⟩ [] [u0] [] ∧
   ((u0 = true → (∃ v4 : Int, ∃ v5 : Int, ∃ v6 : Int, ∃ v7 : Int, Spec Try.prog ball_OfRange_s ⟨[x0, x1], [], []⟩ [v4, v5, v6, v7] [] [] ∧
    (∃ v8 : Int, ∃ v9 : Int, ∃ v10 : Int, ∃ v11 : Int, Spec Try.prog ball_OfFrac_s ⟨[x2, x3], [], []⟩ [v8, v9, v10, v11] [] [] ∧
    (∃ v12 : Int, ∃ v13 : Int, ∃ v14 : Int, ∃ v15 : Int, Spec Try.prog etalonref01_OfRange_s ⟨[x0, x1], [], []⟩ [v12, v13, v14, v15] [] [] ∧
    (∃ v16 : Int, ∃ v17 : Int, ∃ v18 : Int, ∃ v19 : Int, Spec Try.prog etalonref01_OfFrac_s ⟨[x2, x3], [], []⟩ [v16, v17, v18, v19] [] [] ∧
    (∃ u1 : Bool, Spec Try.prog etalonlaw01_is_s ⟨[v4, v5, v6, v7, v12, v13, v14, v15], [], []⟩ [] [u1] [] ∧
    ((u1 = true → (∃ u2 : Bool, Spec Try.prog etalonlaw01_is_s ⟨[v8, v9, v10, v11, v16, v17, v18, v19], [], []⟩ [] [u2] [] ∧
     R (u2))) ∧
    (u1 = false → R (false))))))))) ∧
   (u0 = false → R (false))))) :
    ∃ u0 : Bool, R u0 ∧ Spec Try.prog etalonlaw01_BallMakes_s ⟨[x0, x1, x2, x3], [], []⟩ [] [u0] [] :=
  Eq.mp (by kernel_rfl) (exV_of (K := fun d => app3 etalonlaw01_BallMakes_s.out R d ∧ Spec Try.prog etalonlaw01_BallMakes_s ⟨[x0, x1, x2, x3], [], []⟩ d.1 d.2.1 d.2.2) (tree_at mixed names S1_ok (S := S1 Try.prog) (lf := 100000) (d := 60) etalonlaw01_BallMakes_s bmk_t { ivs := [(0, (-9223372036854775808), 9223372036854775807), (1, (-9223372036854775808), 9223372036854775807), (2, (-9223372036854775808), 9223372036854775807), (3, (-9223372036854775808), 9223372036854775807)], aivs := [] } ⟨[x0, x1, x2, x3], [], []⟩ rfl (by kernel_rfl) (by kernel_rfl) (by kernel_rfl) ⟨(fc r0 (fc r1 (fc r2 (fc r3 fz)))), fz, fz, fz⟩ (R := fun d => app3 etalonlaw01_BallMakes_s.out R d) (Eq.mp (by kernel_rfl) H)))

/-- The ball of a range, of a fraction. -/

def rangeQ (lo hi : Int) : Bq := if re (-67108864) 67108864 lo hi = 0 then bk ((lo + hi) / 2) 0 (hi - (lo + hi) / 2) else be (re (-67108864) 67108864 lo hi)

def mo1 (u : Bool) : Int := if u = true then 0 else 1

def fracQ (n d : Int) : Bq := if ((-1000000000) ≤ n ∧ n ≤ 1000000000) ∧ (1 ≤ d ∧ d ≤ 1000000000) then bk (rdiv (n * 1048576) d) 0 (mo1 (wholeB (n * 1048576) d)) else be 2

theorem range_p {lo hi : Int} (h0 : I64 lo) (h1 : I64 hi) : Spec Try.prog ball_OfRange_s ⟨[lo, hi], [], []⟩ [F (rangeQ lo hi).x, F (rangeQ lo hi).y, (rangeQ lo hi).r, (rangeQ lo hi).e] [] [] := by

  have hc := check_s h0 h1 (show I64 (-67108864) by decide) (show I64 67108864 by decide)

  by_cases h : re (-67108864) 67108864 lo hi = 0

  · obtain ⟨k1, k2, k3⟩ := re_ok h

    have hq : rangeQ lo hi = bk ((lo + hi) / 2) 0 (hi - (lo + hi) / 2) := if_pos h

    have l1 := lower1_s (x := lo + hi) (d := 2) (by omega) (by omega) (by omega) (by omega)

    refine BqF.out (ofr k1 k2 (R := BqF _) ⟨_, hc, fun _ => ⟨_, l1, by omega, fun h5 => ?_, fun h5 => ?_⟩, fun h9 => ?_⟩)

    · simp only [decide_eq_true_eq] at h5

      have := bk_ok (q := rangeQ lo hi) ⟨by omega, by omega, h5⟩ hq

      rwa [F_zero] at this

    · simp only [decide_eq_false_iff_not] at h5

      exact bk_no (fun g => h5 g.2.2) hq

    · simp only [beq_eq_false_iff_ne, ne_eq] at h9; exact absurd h h9

  · refine BqF.out (ofb h0 h1 (R := BqF _) ⟨_, hc, fun h9 => ?_, fun _ => be_ok (by unfold rangeQ; rw [if_neg h])⟩)

    simp only [beq_iff_eq] at h9; exact absurd h9 h

theorem rdiv_one {d : Int} (hd : 0 < d) : rdiv 0 d = 0 ∧ wholeB 0 d = true := by

  refine ⟨?_, by rw [wholeB_mod]; simp⟩

  unfold rdiv; rw [Int.mul_zero, Int.zero_add]; exact Int.ediv_eq_zero_of_lt (by omega) (by omega)

theorem frac_p {n d : Int} (h0 : I64 n) (h1 : I64 d) : Spec Try.prog ball_OfFrac_s ⟨[n, d], [], []⟩ [F (fracQ n d).x, F (fracQ n d).y, (fracQ n d).r, (fracQ n d).e] [] [] := by

  by_cases h : ((-1000000000) ≤ n ∧ n ≤ 1000000000) ∧ (1 ≤ d ∧ d ≤ 1000000000)

  · obtain ⟨k1, k2⟩ := h

    have hq : fracQ n d = bk (rdiv (n * 1048576) d) 0 (mo1 (wholeB (n * 1048576) d)) := if_pos ⟨k1, k2⟩

    have n1 := nearest_s (x := n) (y := 1048576) (d := d) (DvIn_by (X := 1000000000) (Y := 1048576) (by omega) (by omega) (by omega) (by omega) (by omega) (by omega) (by decide) (by decide) (by decide))

    have n2 := nearest_s (x := 0) (y := 1048576) (d := d) (DvIn_by (X := 1000000000) (Y := 1048576) (by omega) (by omega) (by omega) (by omega) (by omega) (by omega) (by decide) (by decide) (by decide))

    rw [Int.zero_mul, (rdiv_one k2.1).1, (rdiv_one k2.1).2] at n2

    have b1 : (-1048576000000000) ≤ rdiv (n * 1048576) d ∧ rdiv (n * 1048576) d ≤ 1048576000000000 := by

      unfold rdiv

      constructor

      · rw [Int.le_ediv_iff_mul_le (by omega)]; omega

      · have : (2 * (n * 1048576) + d) / (2 * d) < 1048576000000001 := by rw [Int.ediv_lt_iff_lt_mul (by omega)]; omega

        omega

    have km : ∀ u, mo1 u = if u = true then 0 else 1 := fun _ => rfl

    rw [km] at hq

    refine BqF.out (off h0 h1 (R := BqF _) ?_)

    rw [decide_eq_true k1.1, decide_eq_true k1.2, decide_eq_true k2.1, decide_eq_true k2.2]

    simp only [reduceCtorEq, false_implies, true_implies, and_true]

    refine ⟨_, _, n1, b1, 0, true, n2, by omega, ?_⟩

    clear n1 n2

    generalize wholeB (n * 1048576) d = w at *

    generalize rdiv (n * 1048576) d = A at *

    generalize fracQ n d = Q at *

    have z0 : decide ((-67108864 : Int) ≤ 0) = true := by decide

    have z1 : decide ((0 : Int) ≤ 67108864) = true := by decide

    cases w

    all_goals (simp only [Bool.false_eq_true, if_true, if_false] at hq; simp only [z0, z1, reduceCtorEq, false_implies, true_implies, and_true, true_and, decide_eq_true_eq, decide_eq_false_iff_not])

    all_goals exact ⟨fun g1 => ⟨fun g2 => bk_ok ⟨⟨g1, g2⟩, by decide, by decide⟩ hq, fun g => bk_no (fun k => g k.1.2) hq⟩, fun g => bk_no (fun k => g k.1.1) hq⟩

  · have hq : fracQ n d = be 2 := if_neg h

    refine BqF.out (off h0 h1 (R := BqF _) ?_)

    simp only [decide_eq_true_eq, decide_eq_false_iff_not]

    exact ⟨fun a => ⟨fun b => ⟨fun c => ⟨fun e => absurd ⟨⟨a, b⟩, c, e⟩ h, fun _ => be_ok hq⟩, fun _ => be_ok hq⟩, fun _ => be_ok hq⟩, fun _ => be_ok hq⟩

theorem range_r {lo hi : Int} (h0 : I64 lo) (h1 : I64 hi) : Spec Try.prog etalonref01_OfRange_s ⟨[lo, hi], [], []⟩ [(rangeQ lo hi).x, (rangeQ lo hi).y, (rangeQ lo hi).r, (rangeQ lo hi).e] [] [] := by

  refine BqI.out (rof h0 h1 (R := BqI _) ?_)

  simp only [decide_eq_true_eq, decide_eq_false_iff_not]

  have e2 : ∀ {P : Prop}, ¬ P → (re (-67108864) 67108864 lo hi = 0 → P) → ((-67108864 ≤ lo ∧ lo ≤ 67108864 ∧ -67108864 ≤ hi ∧ hi ≤ 67108864) → False) → BqI (rangeQ lo hi) 0 0 0 2 := fun {P} _ _ h => by

    have e : re (-67108864) 67108864 lo hi = 2 := by unfold re; rw [if_neg h]

    exact bei_ok (by unfold rangeQ; rw [e, if_neg (by decide)])

  have e3 : ((-67108864 ≤ lo ∧ lo ≤ 67108864 ∧ -67108864 ≤ hi ∧ hi ≤ 67108864) → False) → BqI (rangeQ lo hi) 0 0 0 2 := fun h => e2 (P := False) id (fun g => by have := re_ok g; exact h (by omega)) h

  refine ⟨fun a => ⟨fun b => ⟨fun c => ⟨fun d => ⟨fun e => ⟨_, floor_s (by omega) (by omega), by omega, ?_⟩, fun e => ?_⟩, fun g => e3 (fun k => g k.2.2.2)⟩, fun g => e3 (fun k => g k.2.2.1)⟩, fun g => e3 (fun k => g k.2.1)⟩, fun g => e3 (fun k => g k.1)⟩

  · have hr : re (-67108864) 67108864 lo hi = 0 := by unfold re; rw [if_pos ⟨a, b, c, d⟩, if_pos e]

    have hq : rangeQ lo hi = bk ((lo + hi) / 2) 0 (hi - (lo + hi) / 2) := if_pos hr

    have := checked_r (x := (lo + hi) / 2) (y := 0) (r := hi - (lo + hi) / 2) (by omega) (by omega) (by omega) (by omega)

    rw [← hq] at this

    exact ⟨_, _, _, _, this, rfl, rfl, rfl, rfl⟩

  · have hr : re (-67108864) 67108864 lo hi = 10 := by unfold re; rw [if_pos ⟨a, b, c, d⟩, if_neg e]

    exact bei_ok (by unfold rangeQ; rw [hr, if_neg (by decide)])

theorem bk_far {x y r : Int} (h : ¬ ((-67108864) ≤ x ∧ x ≤ 67108864)) : bk x y r = be 8 := by unfold bk; rw [if_neg (fun g => h g.1)]; rfl

theorem frac_r {n d : Int} (h0 : I64 n) (h1 : I64 d) : Spec Try.prog etalonref01_OfFrac_s ⟨[n, d], [], []⟩ [(fracQ n d).x, (fracQ n d).y, (fracQ n d).r, (fracQ n d).e] [] [] := by

  refine BqI.out (roff h0 h1 (R := BqI _) ?_)

  simp only [decide_eq_true_eq, decide_eq_false_iff_not]

  have e2 : ¬ (((-1000000000) ≤ n ∧ n ≤ 1000000000) ∧ (1 ≤ d ∧ d ≤ 1000000000)) → BqI (fracQ n d) 0 0 0 2 := fun h => bei_ok (if_neg h)

  refine ⟨fun a => ⟨fun b => ⟨fun c => ⟨fun e => ?_, fun g => e2 (fun k => g k.2.2)⟩, fun g => e2 (fun k => g k.2.1)⟩, fun g => e2 (fun k => g k.1.2)⟩, fun g => e2 (fun k => g k.1.1)⟩

  have hq : fracQ n d = bk (rdiv (n * 1048576) d) 0 (mo1 (wholeB (n * 1048576) d)) := if_pos ⟨⟨a, b⟩, c, e⟩

  have b1 : (-1048576000000000) ≤ rdiv (n * 1048576) d ∧ rdiv (n * 1048576) d ≤ 1048576000000000 := by

    unfold rdiv

    constructor

    · rw [Int.le_ediv_iff_mul_le (by omega)]; omega

    · have : (2 * (n * 1048576) + d) / (2 * d) < 1048576000000001 := by rw [Int.ediv_lt_iff_lt_mul (by omega)]; omega

      omega

  by_cases hs : -268435456 ≤ n / d ∧ n / d ≤ 268435456

  · have s1 := scaledRounded_r (n := n) (d := d) (by omega) (by omega) hs

    have c0 := checked_r (x := rdiv (n * 1048576) d) (y := 0) (r := 0) (by omega) (by omega) (by omega) (by omega)

    have c1 := checked_r (x := rdiv (n * 1048576) d) (y := 0) (r := 1) (by omega) (by omega) (by omega) (by omega)

    refine ⟨_, _, s1, by omega, ?_⟩

    generalize wholeB (n * 1048576) d = w at *

    cases w

    · exact ⟨fun _ => ⟨_, _, _, _, c1, by rw [hq]; exact ⟨rfl, rfl, rfl, rfl⟩⟩, fun h => by cases h⟩

    · exact ⟨fun h => (by cases h), fun _ => ⟨_, _, _, _, c0, by rw [hq]; exact ⟨rfl, rfl, rfl, rfl⟩⟩⟩

  · have e1 := Int.mul_ediv_add_emod n d

    have e2 := Int.emod_nonneg n (show d ≠ 0 by omega)

    have e3 := Int.emod_lt_of_pos n (show 0 < d by omega)

    have e4 := ediv_abs' (n := n) (d := d) (M := 1000000000) (by omega) (by omega) (by omega) (by omega)

    have hfar : ¬ ((-67108864) ≤ rdiv (n * 1048576) d ∧ rdiv (n * 1048576) d ≤ 67108864) := by

      intro g

      apply hs

      unfold rdiv at g

      have g1 : -67108864 * (2 * d) ≤ 2 * (n * 1048576) + d := (Int.le_ediv_iff_mul_le (by omega)).1 g.1

      have g2 : 2 * (n * 1048576) + d < 67108865 * (2 * d) := (Int.ediv_lt_iff_lt_mul (by omega)).1 (by omega)

      refine ⟨by rw [Int.le_ediv_iff_mul_le (by omega)]; omega, ?_⟩

      have : n / d < 268435457 := by rw [Int.ediv_lt_iff_lt_mul (by omega)]; omega

      omega

    rw [bk_far hfar] at hq

    have key : ∀ r X : Int, ¬ ((-67108864) ≤ X ∧ X ≤ 67108864) → I64 X → 0 ≤ r ∧ r ≤ 1 → ∃ v3 v4 v5 v6 : Int, Spec Try.prog _etalonref01_B__Checked_s ⟨[X, 0, r], [], []⟩ [v3, v4, v5, v6] [] [] ∧ BqI (fracQ n d) v3 v4 v5 v6 := fun r X hX hI hr => by

      have := checked_r (x := X) (y := 0) (r := r) hI (by omega) (by omega) (by omega)

      rw [bk_far hX] at this

      exact ⟨_, _, _, _, this, by rw [hq]; exact ⟨rfl, rfl, rfl, rfl⟩⟩

    have hsr : ∃ (q : Int) (u : Bool), (q = n / d ∨ q = n / d + 1) ∧ Spec Try.prog etalonref01_scaledRounded_s ⟨[n, d], [], []⟩ [q] [u] [] := by

      obtain ⟨q, u, hq, hs⟩ := rsr (x0 := n) (x1 := d) (by omega) (by omega) (R := fun q _ => q = n / d ∨ q = n / d + 1) ⟨_, _, scaled_cut (by omega) (by omega) hs, by omega, by omega, fun _ => Or.inl rfl, fun _ => ⟨fun _ => Or.inr rfl, fun _ => Or.inl rfl⟩⟩

      exact ⟨q, u, hq, hs⟩

    obtain ⟨q, u, hqq, hsr⟩ := hsr

    have hX : ¬ ((-67108864) ≤ q ∧ q ≤ 67108864) := by omega

    exact ⟨q, u, hsr, by omega, fun _ => key 1 q hX (by omega) (by decide), fun _ => key 0 q hX (by omega) (by decide)⟩

theorem range_n (lo hi : Int) : BqN (rangeQ lo hi) := by

  unfold rangeQ

  split

  · rename_i h; have := re_ok h; exact bk_n (by omega)

  · have := re_vals (-67108864) 67108864 lo hi; exact be_n (by omega)

theorem frac_n (n d : Int) : BqN (fracQ n d) := by

  unfold fracQ

  split

  · exact bk_n (by unfold mo1; split <;> decide)

  · exact be_n (by decide)

theorem makes {x0 x1 x2 x3 : Int} (r0 : I64 x0) (r1 : I64 x1) (r2 : I64 x2) (r3 : I64 x3) : Spec Try.prog etalonlaw01_BallMakes_s ⟨[x0, x1, x2, x3], [], []⟩ [] [true] [] :=

  outt (bmk r0 r1 r2 r3 (R := (· = true)) ⟨_, awake_t, fun _ => ⟨_, _, _, _, range_p r0 r1, _, _, _, _, frac_p r2 r3, _, _, _, _, range_r r0 r1, _, _, _, _, frac_r r2 r3, _, (range_n x0 x1).is, fun _ => ⟨_, (frac_n x2 x3).is, rfl⟩, fun h => by cases h⟩, fun h => by cases h⟩)

end Go.Proofs.Ytgdhpgjfebinhaa.Ev
