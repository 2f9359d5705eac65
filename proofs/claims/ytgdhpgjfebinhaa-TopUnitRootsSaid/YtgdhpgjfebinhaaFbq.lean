/- Directions of the reference; arcs and unit numbers; BallArcs. -/
import Derived.Test.YtgdhpgjfebinhaaFbn
import Derived.Test.YtgdhpgjfebinhaaFbl
namespace Go.Proofs.Ytgdhpgjfebinhaa.Ev
set_option linter.unusedSimpArgs false
open Go Go.RowKit
set_option linter.unusedVariables false
set_option maxRecDepth 100000
def ball_arc_s : Sig := ⟨110, ⟨2, 0, 0⟩, ⟨4, 0, 0⟩, [(.agg [(.int .i64 (.var 0)), (.int .i64 (.var 1))])], [], (.tuple [(.agg [(.complex .f64 (.var 2) (.var 3)), (.int .i64 (.var 4))]), (.int .i64 (.var 5))]), []⟩
def ball_Arc_s : Sig := ⟨49, ⟨2, 0, 0⟩, ⟨4, 0, 0⟩, [(.agg [(.int .i64 (.var 0)), (.int .i64 (.var 1))])], [], (.tuple [(.agg [(.complex .f64 (.var 2) (.var 3)), (.int .i64 (.var 4))]), (.int .i64 (.var 5))]), []⟩
def ball_Unit_s : Sig := ⟨50, ⟨2, 0, 0⟩, ⟨4, 0, 0⟩, [(.int .i64 (.var 0)), (.int .i64 (.var 1))], [], (.tuple [(.agg [(.complex .f64 (.var 2) (.var 3)), (.int .i64 (.var 4))]), (.int .i64 (.var 5))]), []⟩
def etalonbase_Mod_s : Sig := ⟨89, ⟨2, 0, 0⟩, ⟨1, 0, 0⟩, [(.int .i64 (.var 0)), (.int .i64 (.var 1))], [], (.int .i64 (.var 2)), []⟩
def etalonref01_Arc_s : Sig := ⟨51, ⟨2, 0, 0⟩, ⟨4, 0, 0⟩, [(.agg [(.int .i64 (.var 0)), (.int .i64 (.var 1))])], [], (.tuple [(.agg [(.int .i64 (.var 2)), (.int .i64 (.var 3)), (.int .i64 (.var 4))]), (.int .i64 (.var 5))]), []⟩
def etalonref01_arcOf_s : Sig := ⟨112, ⟨2, 0, 0⟩, ⟨4, 0, 0⟩, [(.int .i64 (.var 0)), (.int .i64 (.var 1))], [], (.tuple [(.agg [(.int .i64 (.var 2)), (.int .i64 (.var 3)), (.int .i64 (.var 4))]), (.int .i64 (.var 5))]), []⟩
def etalonref01_Unit_s : Sig := ⟨52, ⟨2, 0, 0⟩, ⟨4, 0, 0⟩, [(.int .i64 (.var 0)), (.int .i64 (.var 1))], [], (.tuple [(.agg [(.int .i64 (.var 2)), (.int .i64 (.var 3)), (.int .i64 (.var 4))]), (.int .i64 (.var 5))]), []⟩
def etalonlaw01_BallArcs_s : Sig := ⟨9, ⟨4, 0, 0⟩, ⟨0, 1, 0⟩, [(.agg [(.int .i64 (.var 0)), (.int .i64 (.var 1))]), (.int .i64 (.var 2)), (.int .i64 (.var 3))], [], (.bool (.var 0)), []⟩

def arp_t : Tr :=
  (.call whole_Lower_s ⟨[(.bin .addI (.var 0) (.var 1)), (.lit 1), (.lit 2)], [], []⟩ ⟨[(.bin .addI (.var 0) (.var 1)), (.lit 1), (.lit 2), (.var 2)], [], []⟩ ⟨65, [(.int .i64 (.bin .addI (.var 0) (.var 1))), (.int .i64 (.lit 1)), (.int .i64 (.lit 2))], [], [none, none], (.int .i64 (.var 2)), []⟩
  (.rng 2 (-4294967296000000) 4294967296000000 (.call ball_direction_s ⟨[(.var 2)], [], []⟩ ⟨[(.var 2), (.var 3), (.var 4)], [], []⟩ ⟨138, [(.int .i64 (.var 2))], [], [none, none], (.complex .f64 (.var 3) (.var 4)), []⟩
  (.whole 3 67108864 (.rng 5 (-67108864) 67108864 (.whole 4 67108864 (.rng 6 (-67108864) 67108864 (.call whole_Nearest_s ⟨[(.var 5), (.lit 1), (.lit 64)], [], []⟩ ⟨[(.var 5), (.lit 1), (.lit 64), (.var 7)], [(.var 0)], []⟩ ⟨130, [(.int .i64 (.var 5)), (.int .i64 (.lit 1)), (.int .i64 (.lit 64))], [], [none, none, none], (.tuple [(.int .i64 (.var 7)), (.bool (.var 0))]), []⟩
  (.rng 7 (-1048576) 1048576 (.call whole_Nearest_s ⟨[(.var 6), (.lit 1), (.lit 64)], [], []⟩ ⟨[(.var 6), (.lit 1), (.lit 64), (.var 8)], [(.var 1)], []⟩ ⟨130, [(.int .i64 (.var 6)), (.int .i64 (.lit 1)), (.int .i64 (.lit 64))], [], [none, none, none], (.tuple [(.int .i64 (.var 8)), (.bool (.var 1))]), []⟩
  (.rng 8 (-1048576) 1048576 (.ite (.var 0)
  (.call whole_Upper_s ⟨[(.bin .subI (.var 1) (.var 2)), (.lit 11), (.lit 7)], [], []⟩ ⟨[(.bin .subI (.var 1) (.var 2)), (.lit 11), (.lit 7), (.var 9)], [], []⟩ ⟨93, [(.int .i64 (.bin .subI (.var 1) (.var 2))), (.int .i64 (.lit 11)), (.int .i64 (.lit 7))], [], [none, none], (.int .i64 (.var 9)), []⟩
   (.rng 9 0 13500000000000000 (.ite (.icmp .eql (.var 0) (.var 1))
   (.ite (.icmp .eql (.bin .remK (.var 0) (.lit 1048576)) (.lit 0))
    (.ret ⟨[(.toF .f64 (.var 7)), (.toF .f64 (.var 8)), (.lit 0), (.lit 0)], [], []⟩ [])
    (.ite (.icmp .leq (.bin .addI (.lit 2) (.var 9)) (.lit 67108864))
     (.ret ⟨[(.toF .f64 (.var 7)), (.toF .f64 (.var 8)), (.bin .addI (.lit 2) (.var 9)), (.lit 0)], [], []⟩ [])
     (.ret ⟨[(.lit 0), (.lit 0), (.lit 0), (.lit 8)], [], []⟩ [])))
   (.ite (.icmp .leq (.bin .addI (.lit 2) (.var 9)) (.lit 67108864))
    (.ret ⟨[(.toF .f64 (.var 7)), (.toF .f64 (.var 8)), (.bin .addI (.lit 2) (.var 9)), (.lit 0)], [], []⟩ [])
    (.ret ⟨[(.lit 0), (.lit 0), (.lit 0), (.lit 8)], [], []⟩ [])))))
  (.call whole_Upper_s ⟨[(.bin .subI (.var 1) (.var 2)), (.lit 11), (.lit 7)], [], []⟩ ⟨[(.bin .subI (.var 1) (.var 2)), (.lit 11), (.lit 7), (.var 9)], [], []⟩ ⟨93, [(.int .i64 (.bin .subI (.var 1) (.var 2))), (.int .i64 (.lit 11)), (.int .i64 (.lit 7))], [], [none, none], (.int .i64 (.var 9)), []⟩
   (.rng 9 0 13500000000000000 (.ite (.icmp .eql (.var 0) (.var 1))
   (.ite (.icmp .eql (.bin .remK (.var 0) (.lit 1048576)) (.lit 0))
    (.ret ⟨[(.toF .f64 (.var 7)), (.toF .f64 (.var 8)), (.lit 0), (.lit 0)], [], []⟩ [])
    (.ite (.icmp .leq (.bin .addI (.lit 2) (.var 9)) (.lit 67108864))
     (.ret ⟨[(.toF .f64 (.var 7)), (.toF .f64 (.var 8)), (.bin .addI (.lit 2) (.var 9)), (.lit 0)], [], []⟩ [])
     (.ret ⟨[(.lit 0), (.lit 0), (.lit 0), (.lit 8)], [], []⟩ [])))
   (.ite (.icmp .leq (.bin .addI (.lit 2) (.var 9)) (.lit 67108864))
    (.ret ⟨[(.toF .f64 (.var 7)), (.toF .f64 (.var 8)), (.bin .addI (.lit 2) (.var 9)), (.lit 0)], [], []⟩ [])
    (.ret ⟨[(.lit 0), (.lit 0), (.lit 0), (.lit 8)], [], []⟩ [])))))))))))))))))
theorem arp {x0 x1 : Int} (r0 : (-4294967296000000) ≤ x0 ∧ x0 ≤ 4294967296000000) (r1 : (-4294967296000000) ≤ x1 ∧ x1 ≤ 4294967296000000) {R : Int → Int → Int → Int → Prop}
  (H : (∃ v2 : Int, Spec Try.prog whole_Lower_s ⟨[(x0 + x1), 1, 2], [], []⟩ [v2] [] [] ∧
   (((-4294967296000000) ≤ (v2 : Int) ∧ (v2 : Int) ≤ 4294967296000000) ∧ (∃ v3 : Int, ∃ v4 : Int, Spec Try.prog ball_direction_s ⟨[v2], [], []⟩ [v3, v4] [] [] ∧
   (∃ v5 : Int, (Rp (v3 : Int).toNat v5 ∧ v5.natAbs ≤ 67108864) ∧ (((-67108864) ≤ (v5 : Int) ∧ (v5 : Int) ≤ 67108864) ∧ (∃ v6 : Int, (Rp (v4 : Int).toNat v6 ∧ v6.natAbs ≤ 67108864) ∧ (((-67108864) ≤ (v6 : Int) ∧ (v6 : Int) ≤ 67108864) ∧ (∃ v7 : Int, ∃ u0 : Bool, Spec Try.prog whole_Nearest_s ⟨[v5, 1, 64], [], []⟩ [v7] [u0] [] ∧
   (((-1048576) ≤ (v7 : Int) ∧ (v7 : Int) ≤ 1048576) ∧ (∃ v8 : Int, ∃ u1 : Bool, Spec Try.prog whole_Nearest_s ⟨[v6, 1, 64], [], []⟩ [v8] [u1] [] ∧
   (((-1048576) ≤ (v8 : Int) ∧ (v8 : Int) ≤ 1048576) ∧ ((u0 = true → (∃ v9 : Int, Spec Try.prog whole_Upper_s ⟨[(x1 - v2), 11, 7], [], []⟩ [v9] [] [] ∧
    ((0 ≤ (v9 : Int) ∧ (v9 : Int) ≤ 13500000000000000) ∧ ((((x0 : Int) == x1) = true → ((((((x0 : Int).tmod 1048576) : Int) == 0) = true → R (((FloatKind.f64.nearest v7 : Nat) : Int)) (((FloatKind.f64.nearest v8 : Nat) : Int)) (0) (0)) ∧
     (((((x0 : Int).tmod 1048576) : Int) == 0) = false → ((decide (((2 + v9) : Int) ≤ 67108864) = true → R (((FloatKind.f64.nearest v7 : Nat) : Int)) (((FloatKind.f64.nearest v8 : Nat) : Int)) ((2 + v9)) (0)) ∧
      (decide (((2 + v9) : Int) ≤ 67108864) = false → R (0) (0) (0) (8)))))) ∧
    (((x0 : Int) == x1) = false → ((decide (((2 + v9) : Int) ≤ 67108864) = true → R (((FloatKind.f64.nearest v7 : Nat) : Int)) (((FloatKind.f64.nearest v8 : Nat) : Int)) ((2 + v9)) (0)) ∧
     (decide (((2 + v9) : Int) ≤ 67108864) = false → R (0) (0) (0) (8)))))))) ∧
   (u0 = false → (∃ v9 : Int, Spec Try.prog whole_Upper_s ⟨[(x1 - v2), 11, 7], [], []⟩ [v9] [] [] ∧
    ((0 ≤ (v9 : Int) ∧ (v9 : Int) ≤ 13500000000000000) ∧ ((((x0 : Int) == x1) = true → ((((((x0 : Int).tmod 1048576) : Int) == 0) = true → R (((FloatKind.f64.nearest v7 : Nat) : Int)) (((FloatKind.f64.nearest v8 : Nat) : Int)) (0) (0)) ∧
     (((((x0 : Int).tmod 1048576) : Int) == 0) = false → ((decide (((2 + v9) : Int) ≤ 67108864) = true → R (((FloatKind.f64.nearest v7 : Nat) : Int)) (((FloatKind.f64.nearest v8 : Nat) : Int)) ((2 + v9)) (0)) ∧
      (decide (((2 + v9) : Int) ≤ 67108864) = false → R (0) (0) (0) (8)))))) ∧
    (((x0 : Int) == x1) = false → ((decide (((2 + v9) : Int) ≤ 67108864) = true → R (((FloatKind.f64.nearest v7 : Nat) : Int)) (((FloatKind.f64.nearest v8 : Nat) : Int)) ((2 + v9)) (0)) ∧
     (decide (((2 + v9) : Int) ≤ 67108864) = false → R (0) (0) (0) (8))))))))))))))))))))) :
    ∃ v0 : Int, ∃ v1 : Int, ∃ v2 : Int, ∃ v3 : Int, R v0 v1 v2 v3 ∧ Spec Try.prog ball_arc_s ⟨[x0, x1], [], []⟩ [v0, v1, v2, v3] [] [] :=
  Eq.mp (by kernel_rfl) (exV_of (K := fun d => app3 ball_arc_s.out R d ∧ Spec Try.prog ball_arc_s ⟨[x0, x1], [], []⟩ d.1 d.2.1 d.2.2) (tree_at mixed names S1_ok (S := S1 Try.prog) (lf := 100000) (d := 60) ball_arc_s arp_t { ivs := [(0, (-4294967296000000), 4294967296000000), (1, (-4294967296000000), 4294967296000000)], aivs := [] } ⟨[x0, x1], [], []⟩ rfl (by kernel_rfl) (by kernel_rfl) (by kernel_rfl) ⟨(fc r0 (fc r1 fz)), fz, fz, fz⟩ (R := fun d => app3 ball_arc_s.out R d) (Eq.mp (by kernel_rfl) H)))

def acp_t : Tr :=
  (.call span_Check_s ⟨[(.var 0), (.var 1), (.lit (-1099511627776)), (.lit 1099511627776)], [], []⟩ ⟨[(.var 0), (.var 1), (.lit (-1099511627776)), (.lit 1099511627776), (.var 2)], [], []⟩ ⟨64, [(.agg [(.int .i64 (.var 0)), (.int .i64 (.var 1))]), (.int .i64 (.lit (-1099511627776))), (.int .i64 (.lit 1099511627776))], [], [none, none], (.int .i64 (.var 2)), []⟩
  (.ite (.icmp .eql (.var 2) (.lit 0))
  (.call ball_arc_s ⟨[(.var 0), (.var 1)], [], []⟩ ⟨[(.var 0), (.var 1), (.var 3), (.var 4), (.var 5), (.var 6)], [], []⟩ ⟨110, [(.agg [(.int .i64 (.var 0)), (.int .i64 (.var 1))])], [], [none, none], (.tuple [(.agg [(.complex .f64 (.var 3) (.var 4)), (.int .i64 (.var 5))]), (.int .i64 (.var 6))]), []⟩
   (.ret ⟨[(.var 3), (.var 4), (.var 5), (.var 6)], [], []⟩ []))
  (.ret ⟨[(.lit 0), (.lit 0), (.lit 0), (.var 2)], [], []⟩ [])))
theorem acp {x0 x1 : Int} (r0 : (-9223372036854775808) ≤ x0 ∧ x0 ≤ 9223372036854775807) (r1 : (-9223372036854775808) ≤ x1 ∧ x1 ≤ 9223372036854775807) {R : Int → Int → Int → Int → Prop}
  (H : (∃ v2 : Int, Spec Try.prog span_Check_s ⟨[x0, x1, (-1099511627776), 1099511627776], [], []⟩ [v2] [] [] ∧
   ((((v2 : Int) == 0) = true → (∃ v3 : Int, ∃ v4 : Int, ∃ v5 : Int, ∃ v6 : Int, Spec Try.prog ball_arc_s ⟨[x0, x1], [], []⟩ [v3, v4, v5, v6] [] [] ∧
    R (v3) (v4) (v5) (v6))) ∧
   (((v2 : Int) == 0) = false → R (0) (0) (0) (v2))))) :
    ∃ v0 : Int, ∃ v1 : Int, ∃ v2 : Int, ∃ v3 : Int, R v0 v1 v2 v3 ∧ Spec Try.prog ball_Arc_s ⟨[x0, x1], [], []⟩ [v0, v1, v2, v3] [] [] :=
  Eq.mp (by kernel_rfl) (exV_of (K := fun d => app3 ball_Arc_s.out R d ∧ Spec Try.prog ball_Arc_s ⟨[x0, x1], [], []⟩ d.1 d.2.1 d.2.2) (tree_at mixed names S1_ok (S := S1 Try.prog) (lf := 100000) (d := 60) ball_Arc_s acp_t { ivs := [(0, (-9223372036854775808), 9223372036854775807), (1, (-9223372036854775808), 9223372036854775807)], aivs := [] } ⟨[x0, x1], [], []⟩ rfl (by kernel_rfl) (by kernel_rfl) (by kernel_rfl) ⟨(fc r0 (fc r1 fz)), fz, fz, fz⟩ (R := fun d => app3 ball_Arc_s.out R d) (Eq.mp (by kernel_rfl) H)))

def unp_t : Tr :=
  (.ite (.icmp .leq (.lit (-1000000000)) (.var 0))
  (.ite (.icmp .leq (.var 0) (.lit 1000000000))
   (.ite (.icmp .leq (.lit 1) (.var 1))
    (.ite (.icmp .leq (.var 1) (.lit 1000000000))
     (.call whole_Lower_s ⟨[(.var 0), (.lit 4194304), (.var 1)], [], []⟩ ⟨[(.var 0), (.lit 4194304), (.var 1), (.var 2)], [], []⟩ ⟨65, [(.int .i64 (.var 0)), (.int .i64 (.lit 4194304)), (.int .i64 (.var 1))], [], [none], (.int .i64 (.var 2)), []⟩
      (.call whole_Upper_s ⟨[(.var 0), (.lit 4194304), (.var 1)], [], []⟩ ⟨[(.var 0), (.lit 4194304), (.var 1), (.var 3)], [], []⟩ ⟨93, [(.int .i64 (.var 0)), (.int .i64 (.lit 4194304)), (.int .i64 (.var 1))], [], [none], (.int .i64 (.var 3)), []⟩
      (.call ball_arc_s ⟨[(.var 2), (.var 3)], [], []⟩ ⟨[(.var 2), (.var 3), (.var 4), (.var 5), (.var 6), (.var 7)], [], []⟩ ⟨110, [(.agg [(.int .i64 (.var 2)), (.int .i64 (.var 3))])], [], [none], (.tuple [(.agg [(.complex .f64 (.var 4) (.var 5)), (.int .i64 (.var 6))]), (.int .i64 (.var 7))]), []⟩
      (.ret ⟨[(.var 4), (.var 5), (.var 6), (.var 7)], [], []⟩ []))))
     (.ret ⟨[(.lit 0), (.lit 0), (.lit 0), (.lit 2)], [], []⟩ []))
    (.ret ⟨[(.lit 0), (.lit 0), (.lit 0), (.lit 2)], [], []⟩ []))
   (.ret ⟨[(.lit 0), (.lit 0), (.lit 0), (.lit 2)], [], []⟩ []))
  (.ret ⟨[(.lit 0), (.lit 0), (.lit 0), (.lit 2)], [], []⟩ []))
theorem unp {x0 x1 : Int} (r0 : (-9223372036854775808) ≤ x0 ∧ x0 ≤ 9223372036854775807) (r1 : (-9223372036854775808) ≤ x1 ∧ x1 ≤ 9223372036854775807) {R : Int → Int → Int → Int → Prop}
  (H : ((decide (((-1000000000) : Int) ≤ x0) = true → ((decide ((x0 : Int) ≤ 1000000000) = true → ((decide ((1 : Int) ≤ x1) = true → ((decide ((x1 : Int) ≤ 1000000000) = true → (∃ v2 : Int, Spec Try.prog whole_Lower_s ⟨[x0, 4194304, x1], [], []⟩ [v2] [] [] ∧
       (∃ v3 : Int, Spec Try.prog whole_Upper_s ⟨[x0, 4194304, x1], [], []⟩ [v3] [] [] ∧
       (∃ v4 : Int, ∃ v5 : Int, ∃ v6 : Int, ∃ v7 : Int, Spec Try.prog ball_arc_s ⟨[v2, v3], [], []⟩ [v4, v5, v6, v7] [] [] ∧
       R (v4) (v5) (v6) (v7))))) ∧
      (decide ((x1 : Int) ≤ 1000000000) = false → R (0) (0) (0) (2)))) ∧
     (decide ((1 : Int) ≤ x1) = false → R (0) (0) (0) (2)))) ∧
    (decide ((x0 : Int) ≤ 1000000000) = false → R (0) (0) (0) (2)))) ∧
   (decide (((-1000000000) : Int) ≤ x0) = false → R (0) (0) (0) (2)))) :
    ∃ v0 : Int, ∃ v1 : Int, ∃ v2 : Int, ∃ v3 : Int, R v0 v1 v2 v3 ∧ Spec Try.prog ball_Unit_s ⟨[x0, x1], [], []⟩ [v0, v1, v2, v3] [] [] :=
  Eq.mp (by kernel_rfl) (exV_of (K := fun d => app3 ball_Unit_s.out R d ∧ Spec Try.prog ball_Unit_s ⟨[x0, x1], [], []⟩ d.1 d.2.1 d.2.2) (tree_at mixed names S1_ok (S := S1 Try.prog) (lf := 100000) (d := 60) ball_Unit_s unp_t { ivs := [(0, (-9223372036854775808), 9223372036854775807), (1, (-9223372036854775808), 9223372036854775807)], aivs := [] } ⟨[x0, x1], [], []⟩ rfl (by kernel_rfl) (by kernel_rfl) (by kernel_rfl) ⟨(fc r0 (fc r1 fz)), fz, fz, fz⟩ (R := fun d => app3 ball_Unit_s.out R d) (Eq.mp (by kernel_rfl) H)))

def rmo_t : Tr :=
  (.ite (.icmp .leq (.lit 0) (.bin .remK (.var 0) (.var 1)))
  (.ret ⟨[(.bin .remK (.var 0) (.var 1))], [], []⟩ [])
  (.ret ⟨[(.bin .addI (.bin .remK (.var 0) (.var 1)) (.var 1))], [], []⟩ []))
theorem rmo {x0 x1 : Int} (r0 : (-9223372036854775808) ≤ x0 ∧ x0 ≤ 9223372036854775807) (r1 : 1 ≤ x1 ∧ x1 ≤ 4611686018427387904) {R : Int → Prop}
  (H : ((decide ((0 : Int) ≤ ((x0 : Int).tmod x1)) = true → R (((x0 : Int).tmod x1))) ∧
   (decide ((0 : Int) ≤ ((x0 : Int).tmod x1)) = false → R ((((x0 : Int).tmod x1) + x1))))) :
    ∃ v0 : Int, R v0 ∧ Spec Try.prog etalonbase_Mod_s ⟨[x0, x1], [], []⟩ [v0] [] [] :=
  Eq.mp (by kernel_rfl) (exV_of (K := fun d => app3 etalonbase_Mod_s.out R d ∧ Spec Try.prog etalonbase_Mod_s ⟨[x0, x1], [], []⟩ d.1 d.2.1 d.2.2) (tree_at mixed names S1_ok (S := S1 Try.prog) (lf := 100000) (d := 60) etalonbase_Mod_s rmo_t { ivs := [(0, (-9223372036854775808), 9223372036854775807), (1, 1, 4611686018427387904)], aivs := [] } ⟨[x0, x1], [], []⟩ rfl (by kernel_rfl) (by kernel_rfl) (by kernel_rfl) ⟨(fc r0 (fc r1 fz)), fz, fz, fz⟩ (R := fun d => app3 etalonbase_Mod_s.out R d) (Eq.mp (by kernel_rfl) H)))

def rar_t : Tr :=
  (.ite (.icmp .leq (.lit (-1099511627776)) (.var 0))
  (.ite (.icmp .leq (.var 0) (.lit 1099511627776))
   (.ite (.icmp .leq (.lit (-1099511627776)) (.var 1))
    (.ite (.icmp .leq (.var 1) (.lit 1099511627776))
     (.ite (.icmp .leq (.var 0) (.var 1))
      (.call etalonbase_Floor_s ⟨[(.bin .addI (.var 0) (.var 1)), (.lit 2)], [], []⟩ ⟨[(.bin .addI (.var 0) (.var 1)), (.lit 2), (.var 2)], [], []⟩ ⟨55, [(.int .i64 (.bin .addI (.var 0) (.var 1))), (.int .i64 (.lit 2))], [], [none, none], (.int .i64 (.var 2)), []⟩
       (.call etalonref01_Direction_s ⟨[(.var 2)], [], []⟩ ⟨[(.var 2), (.var 3), (.var 4)], [], []⟩ ⟨111, [(.int .i64 (.var 2))], [], [none, none], (.agg [(.int .i64 (.var 3)), (.int .i64 (.var 4))]), []⟩
       (.call etalonref01_rounded_s ⟨[(.var 3), (.lit 64)], [], []⟩ ⟨[(.var 3), (.lit 64), (.var 5)], [(.var 0)], []⟩ ⟨94, [(.int .i64 (.var 3)), (.int .i64 (.lit 64))], [], [none, none, none], (.tuple [(.int .i64 (.var 5)), (.bool (.var 0))]), []⟩
       (.call etalonref01_rounded_s ⟨[(.var 4), (.lit 64)], [], []⟩ ⟨[(.var 4), (.lit 64), (.var 6)], [(.var 1)], []⟩ ⟨94, [(.int .i64 (.var 4)), (.int .i64 (.lit 64))], [], [none, none, none], (.tuple [(.int .i64 (.var 6)), (.bool (.var 1))]), []⟩
       (.call etalonbase_Ceil_s ⟨[(.bin (.mulW .i64) (.lit 11) (.bin (.subW .i64) (.var 1) (.var 2))), (.lit 7)], [], []⟩ ⟨[(.bin (.mulW .i64) (.lit 11) (.bin (.subW .i64) (.var 1) (.var 2))), (.lit 7), (.var 7)], [], []⟩ ⟨95, [(.int .i64 (.bin (.mulW .i64) (.lit 11) (.bin (.subW .i64) (.var 1) (.var 2)))), (.int .i64 (.lit 7))], [], [none, none, none], (.int .i64 (.var 7)), []⟩
       (.ite (.icmp .eql (.var 0) (.var 1))
       (.call etalonbase_Mod_s ⟨[(.var 2), (.lit 1048576)], [], []⟩ ⟨[(.var 2), (.lit 1048576), (.var 8)], [], []⟩ ⟨89, [(.int .i64 (.var 2)), (.int .i64 (.lit 1048576))], [], [none, none, none, none], (.int .i64 (.var 8)), []⟩
        (.ite (.icmp .eql (.var 8) (.lit 0))
        (.call _etalonref01_B__Checked_s ⟨[(.var 5), (.var 6), (.lit 0)], [], []⟩ ⟨[(.var 5), (.var 6), (.lit 0), (.var 9), (.var 10), (.var 11), (.var 12)], [], []⟩ ⟨72, [(.agg [(.int .i64 (.var 5)), (.int .i64 (.var 6)), (.int .i64 (.lit 0))])], [], [none, none, none, none], (.tuple [(.agg [(.int .i64 (.var 9)), (.int .i64 (.var 10)), (.int .i64 (.var 11))]), (.int .i64 (.var 12))]), []⟩
         (.ret ⟨[(.var 9), (.var 10), (.var 11), (.var 12)], [], []⟩ []))
        (.call _etalonref01_B__Checked_s ⟨[(.var 5), (.var 6), (.bin (.addW .i64) (.lit 2) (.var 7))], [], []⟩ ⟨[(.var 5), (.var 6), (.bin (.addW .i64) (.lit 2) (.var 7)), (.var 9), (.var 10), (.var 11), (.var 12)], [], []⟩ ⟨72, [(.agg [(.int .i64 (.var 5)), (.int .i64 (.var 6)), (.int .i64 (.bin (.addW .i64) (.lit 2) (.var 7)))])], [], [none, none, none, none], (.tuple [(.agg [(.int .i64 (.var 9)), (.int .i64 (.var 10)), (.int .i64 (.var 11))]), (.int .i64 (.var 12))]), []⟩
         (.ret ⟨[(.var 9), (.var 10), (.var 11), (.var 12)], [], []⟩ []))))
       (.call _etalonref01_B__Checked_s ⟨[(.var 5), (.var 6), (.bin (.addW .i64) (.lit 2) (.var 7))], [], []⟩ ⟨[(.var 5), (.var 6), (.bin (.addW .i64) (.lit 2) (.var 7)), (.var 8), (.var 9), (.var 10), (.var 11)], [], []⟩ ⟨72, [(.agg [(.int .i64 (.var 5)), (.int .i64 (.var 6)), (.int .i64 (.bin (.addW .i64) (.lit 2) (.var 7)))])], [], [none, none, none, none], (.tuple [(.agg [(.int .i64 (.var 8)), (.int .i64 (.var 9)), (.int .i64 (.var 10))]), (.int .i64 (.var 11))]), []⟩
        (.ret ⟨[(.var 8), (.var 9), (.var 10), (.var 11)], [], []⟩ []))))))))
      (.ret ⟨[(.lit 0), (.lit 0), (.lit 0), (.lit 10)], [], []⟩ []))
     (.ret ⟨[(.lit 0), (.lit 0), (.lit 0), (.lit 2)], [], []⟩ []))
    (.ret ⟨[(.lit 0), (.lit 0), (.lit 0), (.lit 2)], [], []⟩ []))
   (.ret ⟨[(.lit 0), (.lit 0), (.lit 0), (.lit 2)], [], []⟩ []))
  (.ret ⟨[(.lit 0), (.lit 0), (.lit 0), (.lit 2)], [], []⟩ []))
theorem rar {x0 x1 : Int} (r0 : (-9223372036854775808) ≤ x0 ∧ x0 ≤ 9223372036854775807) (r1 : (-9223372036854775808) ≤ x1 ∧ x1 ≤ 9223372036854775807) {R : Int → Int → Int → Int → Prop}
  (H : ((decide (((-1099511627776) : Int) ≤ x0) = true → ((decide ((x0 : Int) ≤ 1099511627776) = true → ((decide (((-1099511627776) : Int) ≤ x1) = true → ((decide ((x1 : Int) ≤ 1099511627776) = true → ((decide ((x0 : Int) ≤ x1) = true → (∃ v2 : Int, Spec Try.prog etalonbase_Floor_s ⟨[(x0 + x1), 2], [], []⟩ [v2] [] [] ∧
        (∃ v3 : Int, ∃ v4 : Int, Spec Try.prog etalonref01_Direction_s ⟨[v2], [], []⟩ [v3, v4] [] [] ∧
        (∃ v5 : Int, ∃ u0 : Bool, Spec Try.prog etalonref01_rounded_s ⟨[v3, 64], [], []⟩ [v5] [u0] [] ∧
        (∃ v6 : Int, ∃ u1 : Bool, Spec Try.prog etalonref01_rounded_s ⟨[v4, 64], [], []⟩ [v6] [u1] [] ∧
        (∃ v7 : Int, Spec Try.prog etalonbase_Ceil_s ⟨[IntKind.i64.wrap (11 * IntKind.i64.wrap (x1 - v2)), 7], [], []⟩ [v7] [] [] ∧
        ((((x0 : Int) == x1) = true → (∃ v8 : Int, Spec Try.prog etalonbase_Mod_s ⟨[v2, 1048576], [], []⟩ [v8] [] [] ∧
         ((((v8 : Int) == 0) = true → (∃ v9 : Int, ∃ v10 : Int, ∃ v11 : Int, ∃ v12 : Int, Spec Try.prog _etalonref01_B__Checked_s ⟨[v5, v6, 0], [], []⟩ [v9, v10, v11, v12] [] [] ∧
          R (v9) (v10) (v11) (v12))) ∧
         (((v8 : Int) == 0) = false → (∃ v9 : Int, ∃ v10 : Int, ∃ v11 : Int, ∃ v12 : Int, Spec Try.prog _etalonref01_B__Checked_s ⟨[v5, v6, IntKind.i64.wrap (2 + v7)], [], []⟩ [v9, v10, v11, v12] [] [] ∧
          R (v9) (v10) (v11) (v12)))))) ∧
        (((x0 : Int) == x1) = false → (∃ v8 : Int, ∃ v9 : Int, ∃ v10 : Int, ∃ v11 : Int, Spec Try.prog _etalonref01_B__Checked_s ⟨[v5, v6, IntKind.i64.wrap (2 + v7)], [], []⟩ [v8, v9, v10, v11] [] [] ∧
         R (v8) (v9) (v10) (v11)))))))))) ∧
       (decide ((x0 : Int) ≤ x1) = false → R (0) (0) (0) (10)))) ∧
      (decide ((x1 : Int) ≤ 1099511627776) = false → R (0) (0) (0) (2)))) ∧
     (decide (((-1099511627776) : Int) ≤ x1) = false → R (0) (0) (0) (2)))) ∧
    (decide ((x0 : Int) ≤ 1099511627776) = false → R (0) (0) (0) (2)))) ∧
   (decide (((-1099511627776) : Int) ≤ x0) = false → R (0) (0) (0) (2)))) :
    ∃ v0 : Int, ∃ v1 : Int, ∃ v2 : Int, ∃ v3 : Int, R v0 v1 v2 v3 ∧ Spec Try.prog etalonref01_Arc_s ⟨[x0, x1], [], []⟩ [v0, v1, v2, v3] [] [] :=
  Eq.mp (by kernel_rfl) (exV_of (K := fun d => app3 etalonref01_Arc_s.out R d ∧ Spec Try.prog etalonref01_Arc_s ⟨[x0, x1], [], []⟩ d.1 d.2.1 d.2.2) (tree_at mixed names S1_ok (S := S1 Try.prog) (lf := 100000) (d := 60) etalonref01_Arc_s rar_t { ivs := [(0, (-9223372036854775808), 9223372036854775807), (1, (-9223372036854775808), 9223372036854775807)], aivs := [] } ⟨[x0, x1], [], []⟩ rfl (by kernel_rfl) (by kernel_rfl) (by kernel_rfl) ⟨(fc r0 (fc r1 fz)), fz, fz, fz⟩ (R := fun d => app3 etalonref01_Arc_s.out R d) (Eq.mp (by kernel_rfl) H)))

def rao_t : Tr :=
  (.call etalonbase_Floor_s ⟨[(.bin .mulI (.var 0) (.lit 4194304)), (.var 1)], [], []⟩ ⟨[(.bin .mulI (.var 0) (.lit 4194304)), (.var 1), (.var 2)], [], []⟩ ⟨55, [(.int .i64 (.bin .mulI (.var 0) (.lit 4194304))), (.int .i64 (.var 1))], [], [none], (.int .i64 (.var 2)), []⟩
  (.call etalonbase_Ceil_s ⟨[(.bin .mulI (.var 0) (.lit 4194304)), (.var 1)], [], []⟩ ⟨[(.bin .mulI (.var 0) (.lit 4194304)), (.var 1), (.var 3)], [], []⟩ ⟨95, [(.int .i64 (.bin .mulI (.var 0) (.lit 4194304))), (.int .i64 (.var 1))], [], [none], (.int .i64 (.var 3)), []⟩
  (.call etalonbase_Floor_s ⟨[(.var 2), (.lit 4194304)], [], []⟩ ⟨[(.var 2), (.lit 4194304), (.var 4)], [], []⟩ ⟨55, [(.int .i64 (.var 2)), (.int .i64 (.lit 4194304))], [], [none, none], (.int .i64 (.var 4)), []⟩
  (.call etalonref01_Arc_s ⟨[(.bin (.subW .i64) (.var 2) (.bin (.mulW .i64) (.var 4) (.lit 4194304))), (.bin (.subW .i64) (.var 3) (.bin (.mulW .i64) (.var 4) (.lit 4194304)))], [], []⟩ ⟨[(.bin (.subW .i64) (.var 2) (.bin (.mulW .i64) (.var 4) (.lit 4194304))), (.bin (.subW .i64) (.var 3) (.bin (.mulW .i64) (.var 4) (.lit 4194304))), (.var 5), (.var 6), (.var 7), (.var 8)], [], []⟩ ⟨51, [(.agg [(.int .i64 (.bin (.subW .i64) (.var 2) (.bin (.mulW .i64) (.var 4) (.lit 4194304)))), (.int .i64 (.bin (.subW .i64) (.var 3) (.bin (.mulW .i64) (.var 4) (.lit 4194304))))])], [], [none, none], (.tuple [(.agg [(.int .i64 (.var 5)), (.int .i64 (.var 6)), (.int .i64 (.var 7))]), (.int .i64 (.var 8))]), []⟩
  (.ret ⟨[(.var 5), (.var 6), (.var 7), (.var 8)], [], []⟩ [])))))
theorem rao {x0 x1 : Int} (r0 : (-1000000000) ≤ x0 ∧ x0 ≤ 1000000000) (r1 : 1 ≤ x1 ∧ x1 ≤ 1000000000) {R : Int → Int → Int → Int → Prop}
  (H : (∃ v2 : Int, Spec Try.prog etalonbase_Floor_s ⟨[(x0 * 4194304), x1], [], []⟩ [v2] [] [] ∧
   (∃ v3 : Int, Spec Try.prog etalonbase_Ceil_s ⟨[(x0 * 4194304), x1], [], []⟩ [v3] [] [] ∧
   (∃ v4 : Int, Spec Try.prog etalonbase_Floor_s ⟨[v2, 4194304], [], []⟩ [v4] [] [] ∧
   (∃ v5 : Int, ∃ v6 : Int, ∃ v7 : Int, ∃ v8 : Int, Spec Try.prog etalonref01_Arc_s ⟨[IntKind.i64.wrap (v2 - IntKind.i64.wrap (v4 * 4194304)), IntKind.i64.wrap (v3 - IntKind.i64.wrap (v4 * 4194304))], [], []⟩ [v5, v6, v7, v8] [] [] ∧
   R (v5) (v6) (v7) (v8)))))) :
    ∃ v0 : Int, ∃ v1 : Int, ∃ v2 : Int, ∃ v3 : Int, R v0 v1 v2 v3 ∧ Spec Try.prog etalonref01_arcOf_s ⟨[x0, x1], [], []⟩ [v0, v1, v2, v3] [] [] :=
  Eq.mp (by kernel_rfl) (exV_of (K := fun d => app3 etalonref01_arcOf_s.out R d ∧ Spec Try.prog etalonref01_arcOf_s ⟨[x0, x1], [], []⟩ d.1 d.2.1 d.2.2) (tree_at mixed names S1_ok (S := S1 Try.prog) (lf := 100000) (d := 60) etalonref01_arcOf_s rao_t { ivs := [(0, (-1000000000), 1000000000), (1, 1, 1000000000)], aivs := [] } ⟨[x0, x1], [], []⟩ rfl (by kernel_rfl) (by kernel_rfl) (by kernel_rfl) ⟨(fc r0 (fc r1 fz)), fz, fz, fz⟩ (R := fun d => app3 etalonref01_arcOf_s.out R d) (Eq.mp (by kernel_rfl) H)))

def run_t : Tr :=
  (.ite (.icmp .leq (.lit (-1000000000)) (.var 0))
  (.ite (.icmp .leq (.var 0) (.lit 1000000000))
   (.ite (.icmp .leq (.lit 1) (.var 1))
    (.ite (.icmp .leq (.var 1) (.lit 1000000000))
     (.call etalonref01_arcOf_s ⟨[(.var 0), (.var 1)], [], []⟩ ⟨[(.var 0), (.var 1), (.var 2), (.var 3), (.var 4), (.var 5)], [], []⟩ ⟨112, [(.int .i64 (.var 0)), (.int .i64 (.var 1))], [], [none], (.tuple [(.agg [(.int .i64 (.var 2)), (.int .i64 (.var 3)), (.int .i64 (.var 4))]), (.int .i64 (.var 5))]), []⟩
      (.ret ⟨[(.var 2), (.var 3), (.var 4), (.var 5)], [], []⟩ []))
     (.ret ⟨[(.lit 0), (.lit 0), (.lit 0), (.lit 2)], [], []⟩ []))
    (.ret ⟨[(.lit 0), (.lit 0), (.lit 0), (.lit 2)], [], []⟩ []))
   (.ret ⟨[(.lit 0), (.lit 0), (.lit 0), (.lit 2)], [], []⟩ []))
  (.ret ⟨[(.lit 0), (.lit 0), (.lit 0), (.lit 2)], [], []⟩ []))
theorem run {x0 x1 : Int} (r0 : (-9223372036854775808) ≤ x0 ∧ x0 ≤ 9223372036854775807) (r1 : (-9223372036854775808) ≤ x1 ∧ x1 ≤ 9223372036854775807) {R : Int → Int → Int → Int → Prop}
  (H : ((decide (((-1000000000) : Int) ≤ x0) = true → ((decide ((x0 : Int) ≤ 1000000000) = true → ((decide ((1 : Int) ≤ x1) = true → ((decide ((x1 : Int) ≤ 1000000000) = true → (∃ v2 : Int, ∃ v3 : Int, ∃ v4 : Int, ∃ v5 : Int, Spec Try.prog etalonref01_arcOf_s ⟨[x0, x1], [], []⟩ [v2, v3, v4, v5] [] [] ∧
       R (v2) (v3) (v4) (v5))) ∧
      (decide ((x1 : Int) ≤ 1000000000) = false → R (0) (0) (0) (2)))) ∧
     (decide ((1 : Int) ≤ x1) = false → R (0) (0) (0) (2)))) ∧
    (decide ((x0 : Int) ≤ 1000000000) = false → R (0) (0) (0) (2)))) ∧
   (decide (((-1000000000) : Int) ≤ x0) = false → R (0) (0) (0) (2)))) :
    ∃ v0 : Int, ∃ v1 : Int, ∃ v2 : Int, ∃ v3 : Int, R v0 v1 v2 v3 ∧ Spec Try.prog etalonref01_Unit_s ⟨[x0, x1], [], []⟩ [v0, v1, v2, v3] [] [] :=
  Eq.mp (by kernel_rfl) (exV_of (K := fun d => app3 etalonref01_Unit_s.out R d ∧ Spec Try.prog etalonref01_Unit_s ⟨[x0, x1], [], []⟩ d.1 d.2.1 d.2.2) (tree_at mixed names S1_ok (S := S1 Try.prog) (lf := 100000) (d := 60) etalonref01_Unit_s run_t { ivs := [(0, (-9223372036854775808), 9223372036854775807), (1, (-9223372036854775808), 9223372036854775807)], aivs := [] } ⟨[x0, x1], [], []⟩ rfl (by kernel_rfl) (by kernel_rfl) (by kernel_rfl) ⟨(fc r0 (fc r1 fz)), fz, fz, fz⟩ (R := fun d => app3 etalonref01_Unit_s.out R d) (Eq.mp (by kernel_rfl) H)))

def bar_t : Tr :=
  (.call etalonlaw01_awake_s ⟨[], [], []⟩ ⟨[], [(.var 0)], []⟩ ⟨16, [], [], [none], (.bool (.var 0)), []⟩
  (.ite (.var 0)
  (.call ball_Arc_s ⟨[(.var 0), (.var 1)], [], []⟩ ⟨[(.var 0), (.var 1), (.var 4), (.var 5), (.var 6), (.var 7)], [], []⟩ ⟨49, [(.agg [(.int .i64 (.var 0)), (.int .i64 (.var 1))])], [], [none], (.tuple [(.agg [(.complex .f64 (.var 4) (.var 5)), (.int .i64 (.var 6))]), (.int .i64 (.var 7))]), []⟩
   (.call ball_Unit_s ⟨[(.var 2), (.var 3)], [], []⟩ ⟨[(.var 2), (.var 3), (.var 8), (.var 9), (.var 10), (.var 11)], [], []⟩ ⟨50, [(.int .i64 (.var 2)), (.int .i64 (.var 3))], [], [none, none], (.tuple [(.agg [(.complex .f64 (.var 8) (.var 9)), (.int .i64 (.var 10))]), (.int .i64 (.var 11))]), []⟩
   (.call etalonref01_Arc_s ⟨[(.var 0), (.var 1)], [], []⟩ ⟨[(.var 0), (.var 1), (.var 12), (.var 13), (.var 14), (.var 15)], [], []⟩ ⟨51, [(.agg [(.int .i64 (.var 0)), (.int .i64 (.var 1))])], [], [none, none, none], (.tuple [(.agg [(.int .i64 (.var 12)), (.int .i64 (.var 13)), (.int .i64 (.var 14))]), (.int .i64 (.var 15))]), []⟩
   (.call etalonref01_Unit_s ⟨[(.var 2), (.var 3)], [], []⟩ ⟨[(.var 2), (.var 3), (.var 16), (.var 17), (.var 18), (.var 19)], [], []⟩ ⟨52, [(.int .i64 (.var 2)), (.int .i64 (.var 3))], [], [none, none, none, none], (.tuple [(.agg [(.int .i64 (.var 16)), (.int .i64 (.var 17)), (.int .i64 (.var 18))]), (.int .i64 (.var 19))]), []⟩
   (.call etalonlaw01_is_s ⟨[(.var 4), (.var 5), (.var 6), (.var 7), (.var 12), (.var 13), (.var 14), (.var 15)], [], []⟩ ⟨[(.var 4), (.var 5), (.var 6), (.var 7), (.var 12), (.var 13), (.var 14), (.var 15)], [(.var 1)], []⟩ ⟨21, [(.agg [(.complex .f64 (.var 4) (.var 5)), (.int .i64 (.var 6))]), (.int .i64 (.var 7)), (.agg [(.int .i64 (.var 12)), (.int .i64 (.var 13)), (.int .i64 (.var 14))]), (.int .i64 (.var 15))], [], [none, none, none, none, none], (.bool (.var 1)), []⟩
   (.ite (.var 1)
   (.call etalonlaw01_is_s ⟨[(.var 8), (.var 9), (.var 10), (.var 11), (.var 16), (.var 17), (.var 18), (.var 19)], [], []⟩ ⟨[(.var 8), (.var 9), (.var 10), (.var 11), (.var 16), (.var 17), (.var 18), (.var 19)], [(.var 2)], []⟩ ⟨21, [(.agg [(.complex .f64 (.var 8) (.var 9)), (.int .i64 (.var 10))]), (.int .i64 (.var 11)), (.agg [(.int .i64 (.var 16)), (.int .i64 (.var 17)), (.int .i64 (.var 18))]), (.int .i64 (.var 19))], [], [none, none, none, none, none], (.bool (.var 2)), []⟩
    (.ret ⟨[], [(.var 2)], []⟩ []))
   (.ret ⟨[], [(.lit false)], []⟩ [])))))))
  (.ret ⟨[], [(.lit false)], []⟩ [])))
theorem bar {x0 x1 x2 x3 : Int} (r0 : (-9223372036854775808) ≤ x0 ∧ x0 ≤ 9223372036854775807) (r1 : (-9223372036854775808) ≤ x1 ∧ x1 ≤ 9223372036854775807) (r2 : (-9223372036854775808) ≤ x2 ∧ x2 ≤ 9223372036854775807) (r3 : (-9223372036854775808) ≤ x3 ∧ x3 ≤ 9223372036854775807) {R : Bool → Prop}
  (H : (∃ u0 : Bool, Spec Try.prog etalonlaw01_awake_s ⟨[], [], []⟩ [] [u0] [] ∧
   ((u0 = true → (∃ v4 : Int, ∃ v5 : Int, ∃ v6 : Int, ∃ v7 : Int, Spec Try.prog ball_Arc_s ⟨[x0, x1], [], []⟩ [v4, v5, v6, v7] [] [] ∧
    (∃ v8 : Int, ∃ v9 : Int, ∃ v10 : Int, ∃ v11 : Int, Spec Try.prog ball_Unit_s ⟨[x2, x3], [], []⟩ [v8, v9, v10, v11] [] [] ∧
    (∃ v12 : Int, ∃ v13 : Int, ∃ v14 : Int, ∃ v15 : Int, Spec Try.prog etalonref01_Arc_s ⟨[x0, x1], [], []⟩ [v12, v13, v14, v15] [] [] ∧
    (∃ v16 : Int, ∃ v17 : Int, ∃ v18 : Int, ∃ v19 : Int, Spec Try.prog etalonref01_Unit_s ⟨[x2, x3], [], []⟩ [v16, v17, v18, v19] [] [] ∧
    (∃ u1 : Bool, Spec Try.prog etalonlaw01_is_s ⟨[v4, v5, v6, v7, v12, v13, v14, v15], [], []⟩ [] [u1] [] ∧
    ((u1 = true → (∃ u2 : Bool, Spec Try.prog etalonlaw01_is_s ⟨[v8, v9, v10, v11, v16, v17, v18, v19], [], []⟩ [] [u2] [] ∧
     R (u2))) ∧
    (u1 = false → R (false))))))))) ∧
   (u0 = false → R (false))))) :
    ∃ u0 : Bool, R u0 ∧ Spec Try.prog etalonlaw01_BallArcs_s ⟨[x0, x1, x2, x3], [], []⟩ [] [u0] [] :=
  Eq.mp (by kernel_rfl) (exV_of (K := fun d => app3 etalonlaw01_BallArcs_s.out R d ∧ Spec Try.prog etalonlaw01_BallArcs_s ⟨[x0, x1, x2, x3], [], []⟩ d.1 d.2.1 d.2.2) (tree_at mixed names S1_ok (S := S1 Try.prog) (lf := 100000) (d := 60) etalonlaw01_BallArcs_s bar_t { ivs := [(0, (-9223372036854775808), 9223372036854775807), (1, (-9223372036854775808), 9223372036854775807), (2, (-9223372036854775808), 9223372036854775807), (3, (-9223372036854775808), 9223372036854775807)], aivs := [] } ⟨[x0, x1, x2, x3], [], []⟩ rfl (by kernel_rfl) (by kernel_rfl) (by kernel_rfl) ⟨(fc r0 (fc r1 (fc r2 (fc r3 fz)))), fz, fz, fz⟩ (R := fun d => app3 etalonlaw01_BallArcs_s.out R d) (Eq.mp (by kernel_rfl) H)))

/-- The reference's loop over halves. -/

theorem rloop {k : Int} {R : Int → Int → Prop} (hk : 0 < k ∧ k ≤ 524288) (hR : R (oct k).1 (oct k).2) : (∃ (I2 : Int → Int → Int → Int → Int → Int → Prop) (rk2 : Int → Int → Int → Int → Int → Int → Nat), I2 (0) (524288) (67108864) (0) (47453132) (47453132) ∧ (∀ x2 : Int, ∀ x3 : Int, ∀ x4 : Int, ∀ x5 : Int, ∀ x6 : Int, ∀ x7 : Int, I2 x2 x3 x4 x5 x6 x7 → ((0 ≤ (x2 : Int) ∧ (x2 : Int) ≤ 524288) ∧ ((0 ≤ (x3 : Int) ∧ (x3 : Int) ≤ 524288) ∧ ((0 ≤ (x4 : Int) ∧ (x4 : Int) ≤ 67108864) ∧ ((0 ≤ (x5 : Int) ∧ (x5 : Int) ≤ 67108864) ∧ ((0 ≤ (x6 : Int) ∧ (x6 : Int) ≤ 67108864) ∧ ((0 ≤ (x7 : Int) ∧ (x7 : Int) ≤ 67108864) ∧ ((((k : Int) == x3) = true → (((-9223372036854775808) ≤ ((x4) : Int) ∧ ((x4) : Int) ≤ 9223372036854775807) ∧ (((-9223372036854775808) ≤ ((x5) : Int) ∧ ((x5) : Int) ≤ 9223372036854775807) ∧ (((-9223372036854775808) ≤ ((x6) : Int) ∧ ((x6) : Int) ≤ 9223372036854775807) ∧ (((-9223372036854775808) ≤ ((x7) : Int) ∧ ((x7) : Int) ≤ 9223372036854775807) ∧ R ((x6)) ((x7))))))) ∧ (((k : Int) == x3) = false → (∃ v8 : Int, Spec Try.prog etalonbase_Root_s ⟨[(((x4 + x6) * (x4 + x6)) + ((x5 + x7) * (x5 + x7)))], [], []⟩ [v8] [] [] ∧ ((0 ≤ (v8 : Int) ∧ (v8 : Int) ≤ 268435456) ∧ ((((v8 : Int) == 0) = true → False) ∧ (((v8 : Int) == 0) = false → (((((((x2 + x3) : Int).tdiv 2) : Int) == k) = true → (((-9223372036854775808) ≤ ((((((x4 + x6) * 67108864) : Int).tdiv v8)) : Int) ∧ ((((((x4 + x6) * 67108864) : Int).tdiv v8)) : Int) ≤ 9223372036854775807) ∧ (((-9223372036854775808) ≤ ((((((x5 + x7) * 67108864) : Int).tdiv v8)) : Int) ∧ ((((((x5 + x7) * 67108864) : Int).tdiv v8)) : Int) ≤ 9223372036854775807) ∧ (((-9223372036854775808) ≤ ((x4) : Int) ∧ ((x4) : Int) ≤ 9223372036854775807) ∧ (((-9223372036854775808) ≤ ((x5) : Int) ∧ ((x5) : Int) ≤ 9223372036854775807) ∧ (((-9223372036854775808) ≤ ((x6) : Int) ∧ ((x6) : Int) ≤ 9223372036854775807) ∧ (((-9223372036854775808) ≤ ((x7) : Int) ∧ ((x7) : Int) ≤ 9223372036854775807) ∧ R ((((((x4 + x6) * 67108864) : Int).tdiv v8))) ((((((x5 + x7) * 67108864) : Int).tdiv v8)))))))))) ∧ ((((((x2 + x3) : Int).tdiv 2) : Int) == k) = false → ((decide ((k : Int) ≤ (((x2 + x3) : Int).tdiv 2)) = true → (I2 (x2) ((((x2 + x3) : Int).tdiv 2)) (x4) (x5) (((((x4 + x6) * 67108864) : Int).tdiv v8)) (((((x5 + x7) * 67108864) : Int).tdiv v8)) ∧ rk2 (x2) ((((x2 + x3) : Int).tdiv 2)) (x4) (x5) (((((x4 + x6) * 67108864) : Int).tdiv v8)) (((((x5 + x7) * 67108864) : Int).tdiv v8)) < rk2 x2 x3 x4 x5 x6 x7)) ∧ (decide ((k : Int) ≤ (((x2 + x3) : Int).tdiv 2)) = false → (I2 ((((x2 + x3) : Int).tdiv 2)) (x3) (((((x4 + x6) * 67108864) : Int).tdiv v8)) (((((x5 + x7) * 67108864) : Int).tdiv v8)) (x6) (x7) ∧ rk2 ((((x2 + x3) : Int).tdiv 2)) (x3) (((((x4 + x6) * 67108864) : Int).tdiv v8)) (((((x5 + x7) * 67108864) : Int).tdiv v8)) (x6) (x7) < rk2 x2 x3 x4 x5 x6 x7))))))))))))))))))) := by

  refine ⟨fun lo hi a b c d => (k = 524288 ∧ lo = 0 ∧ hi = 524288 ∧ a = 67108864 ∧ b = 0 ∧ c = 47453132 ∧ d = 47453132) ∨ (k < 524288 ∧ lo < k ∧ HvAt k (hvP k) lo hi a b c d), fun lo hi _ _ _ _ => (hi - lo).toNat, ?_, ?_⟩

  · by_cases h : k = 524288

    · exact .inl ⟨h, rfl, rfl, rfl, rfl, rfl, rfl⟩

    · exact .inr ⟨by omega, hk.1, hvAt_start (by omega) (by omega)⟩

  · intro lo hi a b c d hI

    rcases hI with ⟨rfl, rfl, rfl, rfl, rfl, rfl, rfl⟩ | ⟨hlt, hlo, hA⟩

    · exact ⟨by decide, by decide, by decide, by decide, by decide, by decide, fun _ => ⟨by decide, by decide, by decide, by decide, hR⟩, fun h => by simp at h⟩

    · obtain ⟨q0, q1, q2, q3, qa, qc, kk, qk⟩ := id hA

      have oR : oct k = hvP k := if_pos hlt

      rw [oR] at hR

      obtain ⟨s1, s2, s3, s4, s5, s6, s7, s8⟩ := sizeD qa qc

      have hr := rroot_s (n := sqD a b c d) s1 (by omega)

      have ob := okD_bis qa qc

      have ex : ((a + c) * 67108864).tdiv (rti (sqD a b c d)) = bisX a b c d := Int.tdiv_eq_ediv_of_nonneg (by omega)

      have ey : ((b + d) * 67108864).tdiv (rti (sqD a b c d)) = bisY a b c d := Int.tdiv_eq_ediv_of_nonneg (by omega)

      have em : (lo + hi).tdiv 2 = (lo + hi) / 2 := Int.tdiv_eq_ediv_of_nonneg (by omega)

      obtain ⟨t1, t2, t3, t4, t5⟩ := hvAt_step hA (by omega)

      have rb : rti (sqD a b c d) ≤ 268435456 := by omega

      obtain ⟨a1, a2, a3, a4⟩ := id qa

      obtain ⟨c1, c2, c3, c4⟩ := id qc

      obtain ⟨b1, b2, b3, b4⟩ := id ob

      refine ⟨by omega, by omega, by omega, by omega, by omega, by omega, fun h => ?_, fun _ => ⟨_, hr, ⟨by omega, rb⟩, fun h => ?_, fun _ => ?_⟩⟩

      · simp only [beq_iff_eq] at h; omega

      · simp only [beq_iff_eq] at h; omega

      · rw [ex, ey, em]

        simp only [beq_iff_eq, beq_eq_false_iff_ne, ne_eq, decide_eq_true_eq, decide_eq_false_iff_not]

        refine ⟨fun h => ⟨by omega, by omega, by omega, by omega, by omega, by omega, ?_⟩, fun h => ⟨fun g => ⟨.inr ⟨hlt, hlo, t5 (by omega)⟩, by omega⟩, fun g => ⟨.inr ⟨hlt, by omega, t4 (by omega)⟩, by omega⟩⟩⟩

        have := hvAt_fin (t4 (by omega)) h

        rw [this.1] at hR

        exact hR

theorem oct_zero : oct 0 = (67108864, 0) := by decide +kernel

theorem rti_h : rti 2251799813685248 = 47453132 := rti_uniq (by decide) (by decide) (by decide)

theorem rdir_core {m k : Int} (hm : I64 m) (hk : k = m % 4194304) {R : Int → Int → Prop}

    (h1 : 2097152 ≤ k → ∃ v1 : Int, ∃ v2 : Int, Spec Try.prog etalonref01_Direction_s ⟨[k - 2097152], [], []⟩ [v1, v2] [] [] ∧ (((-67108864) ≤ v1 ∧ v1 ≤ 67108864) ∧ (((-67108864) ≤ v2 ∧ v2 ≤ 67108864) ∧ R (0 - v1) (0 - v2))))

    (h2 : k < 2097152 → 1048576 ≤ k → ∃ v1 : Int, ∃ v2 : Int, Spec Try.prog etalonref01_Direction_s ⟨[k - 1048576], [], []⟩ [v1, v2] [] [] ∧ (((-67108864) ≤ v1 ∧ v1 ≤ 67108864) ∧ (((-67108864) ≤ v2 ∧ v2 ≤ 67108864) ∧ R (0 - v2) v1)))

    (h3 : k ≤ 524288 → R (oct k).1 (oct k).2)

    (h4 : 524288 < k → k < 1048576 → ∃ v1 : Int, ∃ v2 : Int, Spec Try.prog etalonref01_Direction_s ⟨[1048576 - k], [], []⟩ [v1, v2] [] [] ∧ (((-67108864) ≤ v1 ∧ v1 ≤ 67108864) ∧ (((-67108864) ≤ v2 ∧ v2 ≤ 67108864) ∧ R v2 v1))) :

    ∃ x y : Int, R x y ∧ Spec Try.prog etalonref01_Direction_s ⟨[m], [], []⟩ [x, y] [] [] := by

  have hr := rroot_s (n := 2251799813685248) (by decide) (by decide)

  rw [rti_h] at hr

  have hb : 0 ≤ k ∧ k < 4194304 := by omega

  have tm := Int.tmod_eq_emod (a := m) (b := 4194304)

  refine rdr hm (R := R) ⟨fun g => ?_, fun g => ?_⟩

  · have g := of_decide_eq_true g

    have e : m.tmod 4194304 = k := by

      rw [hk]

      have := Int.mul_tdiv_add_tmod m 4194304

      have := Int.mul_ediv_add_emod m 4194304

      have := Int.tmod_lt_of_pos m (show (0 : Int) < 4194304 by decide)

      omega

    rw [e]

    refine ⟨fun a => h1 (of_decide_eq_true a), fun a => ⟨fun b => h2 (by have := of_decide_eq_false a; omega) (of_decide_eq_true b), fun b => ⟨fun c => ⟨_, hr, by decide, fun z => ?_, fun z => ?_⟩, fun c => h4 (by have := of_decide_eq_false c; omega) (by have := of_decide_eq_false b; omega)⟩⟩⟩

    · have := h3 (of_decide_eq_true c)

      have z : k = 0 := by simpa using z

      rw [z, oct_zero] at this

      exact this

    · have z : ¬ k = 0 := by simpa using z

      exact rloop ⟨by omega, of_decide_eq_true c⟩ (h3 (of_decide_eq_true c))

  · have g := of_decide_eq_false g

    have tl : -4194304 < m.tmod 4194304 := by

      have := Int.tmod_lt_of_pos (-m) (show (0 : Int) < 4194304 by decide)

      rw [Int.neg_tmod] at this

      omega

    have e : m.tmod 4194304 + 4194304 = k := by

      rw [hk]

      have := Int.mul_tdiv_add_tmod m 4194304

      have := Int.mul_ediv_add_emod m 4194304

      omega

    have kp : 0 < k := by omega

    rw [e]

    exact ⟨fun a => h1 (of_decide_eq_true a), fun a => ⟨fun b => h2 (by have := of_decide_eq_false a; omega) (of_decide_eq_true b), fun b => ⟨fun c => ⟨_, hr, by decide, rloop ⟨kp, of_decide_eq_true c⟩ (h3 (of_decide_eq_true c))⟩, fun c => h4 (by have := of_decide_eq_false c; omega) (by have := of_decide_eq_false b; omega)⟩⟩⟩

/-- The reference's direction. -/

theorem rdir_quad {m : Int} (hm : I64 m) (h : m % 4194304 < 1048576) : Spec Try.prog etalonref01_Direction_s ⟨[m], [], []⟩ [(quad (m % 4194304)).1, (quad (m % 4194304)).2] [] [] := by

  have low : ∀ j : Int, 0 ≤ j → j ≤ 524288 → Spec Try.prog etalonref01_Direction_s ⟨[j], [], []⟩ [(oct j).1, (oct j).2] [] [] := fun j h0 h1 =>

    outp (rdir_core (m := j) (k := j) (by omega) (by omega) (R := fun x y => x = (oct j).1 ∧ y = (oct j).2) (fun h => by omega) (fun _ h => by omega) (fun _ => ⟨rfl, rfl⟩) (fun h => by omega))

  refine outp (rdir_core hm rfl (R := fun x y => x = (quad (m % 4194304)).1 ∧ y = (quad (m % 4194304)).2) (fun h => by omega) (fun _ h => by omega) (fun h => ?_) (fun h _ => ?_))

  · rw [show quad (m % 4194304) = oct (m % 4194304) from if_pos h]; exact ⟨rfl, rfl⟩

  · have bd := oct_bd (m := 1048576 - m % 4194304) (by omega)

    have e : quad (m % 4194304) = ((oct (1048576 - m % 4194304)).2, (oct (1048576 - m % 4194304)).1) := if_neg (by omega)

    rw [e]

    exact ⟨_, _, low _ (by omega) (by omega), by omega, by omega, rfl, rfl⟩

theorem rdir_half {m : Int} (hm : I64 m) (h : m % 4194304 < 2097152) : Spec Try.prog etalonref01_Direction_s ⟨[m], [], []⟩ [(half (m % 4194304)).1, (half (m % 4194304)).2] [] [] := by

  by_cases h1 : m % 4194304 < 1048576

  · rw [show half (m % 4194304) = quad (m % 4194304) from if_pos h1]; exact rdir_quad hm h1

  · have q := rdir_quad (m := m % 4194304 - 1048576) (by omega) (by omega)

    rw [mod_id (m := m % 4194304 - 1048576) (by omega)] at q

    have bd := quad_bd (m := m % 4194304 - 1048576) (by omega)

    have e : half (m % 4194304) = (0 - (quad (m % 4194304 - 1048576)).2, (quad (m % 4194304 - 1048576)).1) := if_neg h1

    rw [e]

    exact outp (rdir_core hm rfl (R := fun x y => x = 0 - (quad (m % 4194304 - 1048576)).2 ∧ y = (quad (m % 4194304 - 1048576)).1) (fun h => by omega) (fun _ _ => ⟨_, _, q, by omega, by omega, rfl, rfl⟩) (fun h => by omega) (fun _ h => by omega))

theorem rdir_s {m : Int} (hm : I64 m) : Spec Try.prog etalonref01_Direction_s ⟨[m], [], []⟩ [(dirQ m).1, (dirQ m).2] [] [] := by

  by_cases h1 : m % 4194304 < 2097152

  · rw [show dirQ m = half (m % 4194304) from if_pos h1]; exact rdir_half hm h1

  · have q := rdir_half (m := m % 4194304 - 2097152) (by omega) (by omega)

    rw [mod_id (m := m % 4194304 - 2097152) (by omega)] at q

    have bd := half_bd (m := m % 4194304 - 2097152) (by omega)

    have e : dirQ m = (0 - (half (m % 4194304 - 2097152)).1, 0 - (half (m % 4194304 - 2097152)).2) := if_neg h1

    rw [e]

    exact outp (rdir_core hm rfl (R := fun x y => x = 0 - (half (m % 4194304 - 2097152)).1 ∧ y = 0 - (half (m % 4194304 - 2097152)).2) (fun _ => ⟨_, _, q, by omega, by omega, rfl, rfl⟩) (fun h => absurd h h1) (fun h => by omega) (fun _ h => by omega))

/-- The ball of an arc. -/

def arcQ (lo hi : Int) : Bq := bk (rdiv (dirQ ((lo + hi) / 2)).1 64) (rdiv (dirQ ((lo + hi) / 2)).2 64) (if lo = hi ∧ lo % 1048576 = 0 then 0 else 2 + cdiv ((hi - (lo + hi) / 2) * 11) 7)

theorem rdiv64 {n : Int} (h : (-67108864) ≤ n ∧ n ≤ 67108864) : (-1048576) ≤ rdiv n 64 ∧ rdiv n 64 ≤ 1048576 := by unfold rdiv; omega

theorem arc_p {lo hi : Int} (h0 : (-4294967296000000) ≤ lo ∧ lo ≤ 4294967296000000) (h1 : (-4294967296000000) ≤ hi ∧ hi ≤ 4294967296000000) (hl : lo ≤ hi) : Spec Try.prog ball_arc_s ⟨[lo, hi], [], []⟩ [F (arcQ lo hi).x, F (arcQ lo hi).y, (arcQ lo hi).r, (arcQ lo hi).e] [] [] := by

  have l1 := lower1_s (x := lo + hi) (d := 2) (by omega) (by omega) (by omega) (by omega)

  obtain ⟨x, y, ⟨hx, hy⟩, hd⟩ := dir_p (m := (lo + hi) / 2) (by omega)

  have bd := dirQ_bd ((lo + hi) / 2)

  have n1 := nearest1_s (x := (dirQ ((lo + hi) / 2)).1) (d := 64) (by omega) (by omega) (by decide) (by decide)

  have n2 := nearest1_s (x := (dirQ ((lo + hi) / 2)).2) (d := 64) (by omega) (by omega) (by decide) (by decide)

  have b1 := rdiv64 bd.1

  have b2 := rdiv64 bd.2

  have u1 := upper_s (x := hi - (lo + hi) / 2) (y := 11) (d := 7) (DvIn_by (X := 8589934592000000) (Y := 11) (by omega) (by omega) (by decide) (by decide) (by decide) (by decide) (by decide) (by decide) (by decide))

  have c1 : 0 ≤ cdiv ((hi - (lo + hi) / 2) * 11) 7 ∧ cdiv ((hi - (lo + hi) / 2) * 11) 7 ≤ 13500000000000000 := by unfold cdiv; omega

  have tm : lo.tmod 1048576 = 0 ↔ lo % 1048576 = 0 := by

    have := Int.mul_tdiv_add_tmod lo 1048576

    have := Int.mul_ediv_add_emod lo 1048576

    have := Int.tmod_lt_of_pos lo (show (0 : Int) < 1048576 by decide)

    have tl : -1048576 < lo.tmod 1048576 := by

      have := Int.tmod_lt_of_pos (-lo) (show (0 : Int) < 1048576 by decide)

      rw [Int.neg_tmod] at this

      omega

    omega

  have q0 : lo = hi → lo % 1048576 = 0 → arcQ lo hi = bk (rdiv (dirQ ((lo + hi) / 2)).1 64) (rdiv (dirQ ((lo + hi) / 2)).2 64) 0 := fun a b => by unfold arcQ; rw [if_pos ⟨a, b⟩]

  have q1 : ¬ (lo = hi ∧ lo % 1048576 = 0) → arcQ lo hi = bk (rdiv (dirQ ((lo + hi) / 2)).1 64) (rdiv (dirQ ((lo + hi) / 2)).2 64) (2 + cdiv ((hi - (lo + hi) / 2) * 11) 7) := fun a => by unfold arcQ; rw [if_neg a]

  have i1 : (-67108864) ≤ rdiv (dirQ ((lo + hi) / 2)).1 64 ∧ rdiv (dirQ ((lo + hi) / 2)).1 64 ≤ 67108864 := by omega

  have i2 : (-67108864) ≤ rdiv (dirQ ((lo + hi) / 2)).2 64 ∧ rdiv (dirQ ((lo + hi) / 2)).2 64 ≤ 67108864 := by omega

  have body : ∃ v9 : Int, Spec Try.prog whole_Upper_s ⟨[hi - (lo + hi) / 2, 11, 7], [], []⟩ [v9] [] [] ∧ ((0 ≤ v9 ∧ v9 ≤ 13500000000000000) ∧ ((((lo : Int) == hi) = true → ((((lo.tmod 1048576 : Int) == 0) = true → BqF (arcQ lo hi) (F (rdiv (dirQ ((lo + hi) / 2)).1 64)) (F (rdiv (dirQ ((lo + hi) / 2)).2 64)) 0 0) ∧ (((lo.tmod 1048576 : Int) == 0) = false → ((decide ((2 + v9) ≤ (67108864 : Int)) = true → BqF (arcQ lo hi) (F (rdiv (dirQ ((lo + hi) / 2)).1 64)) (F (rdiv (dirQ ((lo + hi) / 2)).2 64)) (2 + v9) 0) ∧ (decide ((2 + v9) ≤ (67108864 : Int)) = false → BqF (arcQ lo hi) 0 0 0 8))))) ∧ (((lo : Int) == hi) = false → ((decide ((2 + v9) ≤ (67108864 : Int)) = true → BqF (arcQ lo hi) (F (rdiv (dirQ ((lo + hi) / 2)).1 64)) (F (rdiv (dirQ ((lo + hi) / 2)).2 64)) (2 + v9) 0) ∧ (decide ((2 + v9) ≤ (67108864 : Int)) = false → BqF (arcQ lo hi) 0 0 0 8))))) := by

    refine ⟨_, u1, c1, fun a => ⟨fun b => ?_, fun b => bk_tree3 (q1 ?_) i1 i2⟩, fun a => bk_tree3 (q1 ?_) i1 i2⟩

    · exact bk_ok ⟨i1, i2, by decide⟩ (q0 (by simpa using a) (tm.1 (by simpa using b)))

    · intro k; have := tm.2 k.2; simp [this] at b

    · intro k; have a : ¬ lo = hi := by simpa using a

      exact a k.1

  exact BqF.out (arp h0 h1 (R := BqF _) ⟨_, l1, by omega, _, _, hd, _, ⟨hx, by omega⟩, bd.1, _, ⟨hy, by omega⟩, bd.2, _, _, n1, b1, _, _, n2, b2, fun _ => body, fun _ => body⟩)

def arcE (lo hi : Int) : Bq := if re (-1099511627776) 1099511627776 lo hi = 0 then arcQ lo hi else be (re (-1099511627776) 1099511627776 lo hi)

theorem Arc_p {lo hi : Int} (r0 : I64 lo) (r1 : I64 hi) : Spec Try.prog ball_Arc_s ⟨[lo, hi], [], []⟩ [F (arcE lo hi).x, F (arcE lo hi).y, (arcE lo hi).r, (arcE lo hi).e] [] [] := by

  have hc := check_s r0 r1 (show I64 (-1099511627776) by decide) (show I64 1099511627776 by decide)

  refine BqF.out (acp r0 r1 (R := BqF _) ⟨_, hc, fun h => ?_, fun h => be_ok ?_⟩)

  · have h : re (-1099511627776) 1099511627776 lo hi = 0 := by simpa using h

    obtain ⟨k1, k2, k3⟩ := re_ok h

    have e : arcE lo hi = arcQ lo hi := if_pos h

    rw [e]

    exact ⟨_, _, _, _, arc_p (by omega) (by omega) k3, rfl, rfl, rfl, rfl⟩

  · have h : ¬ re (-1099511627776) 1099511627776 lo hi = 0 := by simpa using h

    unfold arcE; rw [if_neg h]

def unitQ (n d : Int) : Bq := if ((-1000000000) ≤ n ∧ n ≤ 1000000000) ∧ (1 ≤ d ∧ d ≤ 1000000000) then arcQ (n * 4194304 / d) (cdiv (n * 4194304) d) else be 2

theorem unit_rng {n d : Int} (hn : (-1000000000) ≤ n ∧ n ≤ 1000000000) (hd : 1 ≤ d ∧ d ≤ 1000000000) : ((-4194304000000000) ≤ n * 4194304 / d ∧ n * 4194304 / d ≤ 4194304000000000) ∧ ((-4194304000000000) ≤ cdiv (n * 4194304) d ∧ cdiv (n * 4194304) d ≤ 4194304000000000) ∧ n * 4194304 / d ≤ cdiv (n * 4194304) d ∧ cdiv (n * 4194304) d ≤ n * 4194304 / d + 1 ∧ (cdiv (n * 4194304) d = n * 4194304 / d ↔ n * 4194304 % d = 0) := by

  have b := ediv_abs' (n := n * 4194304) (d := d) (M := 4194304000000000) (by omega) (by omega) (by omega) (by omega)

  have b' := ediv_abs' (n := -(n * 4194304)) (d := d) (M := 4194304000000000) (by omega) (by omega) (by omega) (by omega)

  have e1 := Int.mul_ediv_add_emod (n * 4194304) d

  have e2 := Int.emod_nonneg (n * 4194304) (show d ≠ 0 by omega)

  have e3 := Int.emod_lt_of_pos (n * 4194304) (show 0 < d by omega)

  have hc := cdiv_spec' (n * 4194304) (show 0 < d by omega)

  have cb : (-4194304000000000) ≤ cdiv (n * 4194304) d ∧ cdiv (n * 4194304) d ≤ 4194304000000000 := by unfold cdiv; omega

  generalize cdiv (n * 4194304) d = c at *

  generalize n * 4194304 / d = q at *

  generalize n * 4194304 % d = s at *

  have key : ∀ a b : Int, d * a ≤ d * b → a ≤ b := fun a b h => Int.le_of_mul_le_mul_left h (by omega)

  have key2 : ∀ a b : Int, d * a < d * b → a < b := fun a b h => Int.lt_of_mul_lt_mul_left h (by omega)

  have m1 : d * (c - 1) = d * c - d := by rw [Int.mul_sub]; omega

  have m2 : d * (q + 1) = d * q + d := by rw [Int.mul_add]; omega

  have a1 := key q c (by omega)

  have a2 := key2 (c - 1) (q + 1) (by omega)

  refine ⟨by omega, by omega, by omega, by omega, fun h => ?_, fun h => ?_⟩

  · subst h; omega

  · have := key2 (c - 1) q (by omega); omega

theorem Unit_p {n d : Int} (r0 : I64 n) (r1 : I64 d) : Spec Try.prog ball_Unit_s ⟨[n, d], [], []⟩ [F (unitQ n d).x, F (unitQ n d).y, (unitQ n d).r, (unitQ n d).e] [] [] := by

  refine BqF.out (unp r0 r1 (R := BqF _) ?_)

  simp only [decide_eq_true_eq, decide_eq_false_iff_not]

  have bad : ¬ (((-1000000000) ≤ n ∧ n ≤ 1000000000) ∧ (1 ≤ d ∧ d ≤ 1000000000)) → BqF (unitQ n d) 0 0 0 2 := fun h => be_ok (if_neg h)

  refine ⟨fun a => ⟨fun b => ⟨fun c => ⟨fun e => ?_, fun g => bad (fun k => g k.2.2)⟩, fun g => bad (fun k => g k.2.1)⟩, fun g => bad (fun k => g k.1.2)⟩, fun g => bad (fun k => g k.1.1)⟩

  obtain ⟨k1, k2, k3, k4, k5⟩ := unit_rng ⟨a, b⟩ ⟨c, e⟩

  have hl := lower_s (x := n) (y := 4194304) (d := d) (DvIn_by (X := 1000000000) (Y := 4194304) (by omega) (by omega) (by decide) (by decide) (by omega) (by omega) (by decide) (by decide) (by decide))

  have hu := upper_s (x := n) (y := 4194304) (d := d) (DvIn_by (X := 1000000000) (Y := 4194304) (by omega) (by omega) (by decide) (by decide) (by omega) (by omega) (by decide) (by decide) (by decide))

  have ee : unitQ n d = arcQ (n * 4194304 / d) (cdiv (n * 4194304) d) := if_pos ⟨⟨a, b⟩, c, e⟩

  rw [ee]

  exact ⟨_, hl, _, hu, _, _, _, _, arc_p (by omega) (by omega) k3, rfl, rfl, rfl, rfl⟩

theorem mod_s {n d : Int} (hn : I64 n) (hd : 1 ≤ d ∧ d ≤ 4611686018427387904) : Spec Try.prog etalonbase_Mod_s ⟨[n, d], [], []⟩ [n % d] [] [] := by

  have e1 := Int.mul_tdiv_add_tmod n d

  have e2 := Int.mul_ediv_add_emod n d

  have e3 := Int.emod_nonneg n (show d ≠ 0 by omega)

  have e4 := Int.emod_lt_of_pos n (show 0 < d by omega)

  have t1 := Int.tmod_lt_of_pos n (show 0 < d by omega)

  have t2 : -d < n.tmod d := by

    have := Int.tmod_lt_of_pos (-n) (show 0 < d by omega)

    rw [Int.neg_tmod] at this

    omega

  have key : 0 ≤ n.tmod d → n.tmod d = n % d := fun h => ((Int.ediv_emod_unique (a := n) (b := d) (r := n.tmod d) (q := n.tdiv d) (by omega : 0 < d)).2 ⟨by omega, h, t1⟩).2.symm

  have key2 : n.tmod d < 0 → n.tmod d + d = n % d := fun h => ((Int.ediv_emod_unique (a := n) (b := d) (r := n.tmod d + d) (q := n.tdiv d - 1) (by omega : 0 < d)).2 ⟨by rw [Int.mul_sub]; omega, by omega, by omega⟩).2.symm

  refine out1 (rmo hn hd (R := (· = n % d)) ?_)

  simp only [decide_eq_true_eq, decide_eq_false_iff_not]

  first

  | exact ⟨fun h => key2 (by omega), fun h => key (by omega)⟩

  | exact ⟨fun h => key h, fun h => key2 (by omega)⟩

theorem dirQ_shift (m t : Int) : dirQ (m - t * 4194304) = dirQ m := by

  unfold dirQ

  rw [show (m - t * 4194304) % 4194304 = m % 4194304 by omega]

theorem arcQ_shift (lo hi t : Int) : arcQ (lo - t * 4194304) (hi - t * 4194304) = arcQ lo hi := by

  unfold arcQ

  have e1 : (lo - t * 4194304 + (hi - t * 4194304)) / 2 = (lo + hi) / 2 - t * 4194304 := by omega

  rw [e1, dirQ_shift]

  have e2 : hi - t * 4194304 - ((lo + hi) / 2 - t * 4194304) = hi - (lo + hi) / 2 := by omega

  rw [e2]

  have e3 : (lo - t * 4194304 = hi - t * 4194304 ∧ (lo - t * 4194304) % 1048576 = 0) ↔ (lo = hi ∧ lo % 1048576 = 0) := by omega

  by_cases h : lo = hi ∧ lo % 1048576 = 0

  · rw [if_pos h, if_pos (e3.2 h)]

  · rw [if_neg h, if_neg (fun k => h (e3.1 k))]

theorem Arc_r {lo hi : Int} (r0 : I64 lo) (r1 : I64 hi) : Spec Try.prog etalonref01_Arc_s ⟨[lo, hi], [], []⟩ [(arcE lo hi).x, (arcE lo hi).y, (arcE lo hi).r, (arcE lo hi).e] [] [] := by

  refine BqI.out (rar r0 r1 (R := BqI _) ?_)

  simp only [decide_eq_true_eq, decide_eq_false_iff_not]

  have e3 : ¬ (-1099511627776 ≤ lo ∧ lo ≤ 1099511627776 ∧ -1099511627776 ≤ hi ∧ hi ≤ 1099511627776) → BqI (arcE lo hi) 0 0 0 2 := fun h => by

    have e : re (-1099511627776) 1099511627776 lo hi = 2 := by unfold re; rw [if_neg h]

    exact bei_ok (by unfold arcE; rw [e, if_neg (by decide)])

  refine ⟨fun a => ⟨fun b => ⟨fun c => ⟨fun d => ⟨fun e => ?_, fun e => ?_⟩, fun g => e3 (fun k => g k.2.2.2)⟩, fun g => e3 (fun k => g k.2.2.1)⟩, fun g => e3 (fun k => g k.2.1)⟩, fun g => e3 (fun k => g k.1)⟩

  · have hr : re (-1099511627776) 1099511627776 lo hi = 0 := by unfold re; rw [if_pos ⟨a, b, c, d⟩, if_pos e]

    have hq : arcE lo hi = arcQ lo hi := if_pos hr

    have bd := dirQ_bd ((lo + hi) / 2)

    have n1 := rounded_r (n := (dirQ ((lo + hi) / 2)).1) (d := 64) (by omega) (by decide)

    have n2 := rounded_r (n := (dirQ ((lo + hi) / 2)).2) (d := 64) (by omega) (by decide)

    have b1 := rdiv64 bd.1

    have b2 := rdiv64 bd.2

    have w1 : IntKind.i64.wrap (hi - (lo + hi) / 2) = hi - (lo + hi) / 2 := wrapI (by omega)

    have w2 : IntKind.i64.wrap (11 * (hi - (lo + hi) / 2)) = (hi - (lo + hi) / 2) * 11 := by rw [wrapI (by omega), Int.mul_comm]

    have c1 : 0 ≤ cdiv ((hi - (lo + hi) / 2) * 11) 7 ∧ cdiv ((hi - (lo + hi) / 2) * 11) 7 ≤ 13500000000000 := by unfold cdiv; omega

    have w3 : IntKind.i64.wrap (2 + cdiv ((hi - (lo + hi) / 2) * 11) 7) = 2 + cdiv ((hi - (lo + hi) / 2) * 11) 7 := wrapI (by omega)

    rw [hq]

    have k0 := checked_r (x := rdiv (dirQ ((lo + hi) / 2)).1 64) (y := rdiv (dirQ ((lo + hi) / 2)).2 64) (r := 0) (by omega) (by omega) (by decide) (by decide)

    have k1 := checked_r (x := rdiv (dirQ ((lo + hi) / 2)).1 64) (y := rdiv (dirQ ((lo + hi) / 2)).2 64) (r := 2 + cdiv ((hi - (lo + hi) / 2) * 11) 7) (by omega) (by omega) (by omega) (by omega)

    refine ⟨_, floor_s (by omega) (by omega), _, _, rdir_s (by omega), _, _, n1, _, _, n2, ?_⟩

    rw [w1, w2]

    refine ⟨_, ceil_s (by omega) (by omega), fun f => ⟨_, mod_s (by omega) (by decide), fun g => ?_, fun g => ?_⟩, fun f => ?_⟩

    · simp only [beq_iff_eq] at f g

      have : arcQ lo hi = bk (rdiv (dirQ ((lo + hi) / 2)).1 64) (rdiv (dirQ ((lo + hi) / 2)).2 64) 0 := by unfold arcQ; rw [if_pos ⟨f, by omega⟩]

      rw [this]

      exact ⟨_, _, _, _, k0, rfl, rfl, rfl, rfl⟩

    · simp only [beq_iff_eq, beq_eq_false_iff_ne, ne_eq] at f g

      have : arcQ lo hi = bk (rdiv (dirQ ((lo + hi) / 2)).1 64) (rdiv (dirQ ((lo + hi) / 2)).2 64) (2 + cdiv ((hi - (lo + hi) / 2) * 11) 7) := by unfold arcQ; rw [if_neg (by omega)]

      rw [this, w3]

      exact ⟨_, _, _, _, k1, rfl, rfl, rfl, rfl⟩

    · simp only [beq_eq_false_iff_ne, ne_eq] at f

      have : arcQ lo hi = bk (rdiv (dirQ ((lo + hi) / 2)).1 64) (rdiv (dirQ ((lo + hi) / 2)).2 64) (2 + cdiv ((hi - (lo + hi) / 2) * 11) 7) := by unfold arcQ; rw [if_neg (fun k => f k.1)]

      rw [this, w3]

      exact ⟨_, _, _, _, k1, rfl, rfl, rfl, rfl⟩

  · have hr : re (-1099511627776) 1099511627776 lo hi = 10 := by unfold re; rw [if_pos ⟨a, b, c, d⟩, if_neg e]

    exact bei_ok (by unfold arcE; rw [hr, if_neg (by decide)])

theorem Unit_r {n d : Int} (r0 : I64 n) (r1 : I64 d) : Spec Try.prog etalonref01_Unit_s ⟨[n, d], [], []⟩ [(unitQ n d).x, (unitQ n d).y, (unitQ n d).r, (unitQ n d).e] [] [] := by

  refine BqI.out (run r0 r1 (R := BqI _) ?_)

  simp only [decide_eq_true_eq, decide_eq_false_iff_not]

  have bad : ¬ (((-1000000000) ≤ n ∧ n ≤ 1000000000) ∧ (1 ≤ d ∧ d ≤ 1000000000)) → BqI (unitQ n d) 0 0 0 2 := fun h => bei_ok (if_neg h)

  refine ⟨fun a => ⟨fun b => ⟨fun c => ⟨fun e => ?_, fun g => bad (fun k => g k.2.2)⟩, fun g => bad (fun k => g k.2.1)⟩, fun g => bad (fun k => g k.1.2)⟩, fun g => bad (fun k => g k.1.1)⟩

  obtain ⟨k1, k2, k3, k4, k5⟩ := unit_rng ⟨a, b⟩ ⟨c, e⟩

  have ee : unitQ n d = arcQ (n * 4194304 / d) (cdiv (n * 4194304) d) := if_pos ⟨⟨a, b⟩, c, e⟩

  have inner : Spec Try.prog etalonref01_arcOf_s ⟨[n, d], [], []⟩ [(unitQ n d).x, (unitQ n d).y, (unitQ n d).r, (unitQ n d).e] [] [] := by

    have f1 : Spec Try.prog etalonbase_Floor_s ⟨[n * 4194304, d], [], []⟩ [n * 4194304 / d] [] [] := floor_s (by omega) (by omega)

    have f2 : Spec Try.prog etalonbase_Ceil_s ⟨[n * 4194304, d], [], []⟩ [cdiv (n * 4194304) d] [] [] := ceil_s (by omega) (by omega)

    rw [ee]

    generalize n * 4194304 / d = lo at *

    generalize cdiv (n * 4194304) d = hi at *

    have f3 : Spec Try.prog etalonbase_Floor_s ⟨[lo, 4194304], [], []⟩ [lo / 4194304] [] [] := floor_s (by omega) (by decide)

    have w1 : IntKind.i64.wrap (lo / 4194304 * 4194304) = lo / 4194304 * 4194304 := wrapI (by omega)

    have w2 : IntKind.i64.wrap (lo - lo / 4194304 * 4194304) = lo - lo / 4194304 * 4194304 := wrapI (by omega)

    have w3 : IntKind.i64.wrap (hi - lo / 4194304 * 4194304) = hi - lo / 4194304 * 4194304 := wrapI (by omega)

    have ar := Arc_r (lo := lo - lo / 4194304 * 4194304) (hi := hi - lo / 4194304 * 4194304) (by omega) (by omega)

    have hr : re (-1099511627776) 1099511627776 (lo - lo / 4194304 * 4194304) (hi - lo / 4194304 * 4194304) = 0 := by unfold re; rw [if_pos (by omega), if_pos (by omega)]

    have ea : arcE (lo - lo / 4194304 * 4194304) (hi - lo / 4194304 * 4194304) = arcQ lo hi := by unfold arcE; rw [if_pos hr, arcQ_shift]

    rw [ea] at ar

    refine BqI.out (rao ⟨a, b⟩ ⟨c, e⟩ (R := BqI _) ⟨_, f1, _, f2, _, f3, ?_⟩)

    rw [w1, w2, w3]

    exact ⟨_, _, _, _, ar, rfl, rfl, rfl, rfl⟩

  exact ⟨_, _, _, _, inner, rfl, rfl, rfl, rfl⟩

theorem arcQ_n {lo hi : Int} (h : lo ≤ hi) : BqN (arcQ lo hi) := by

  refine bk_n ?_

  split

  · decide

  · have := cdiv_nn (n := (hi - (lo + hi) / 2) * 11) (d := 7) (by decide) (by omega); omega

theorem arcE_n (lo hi : Int) : BqN (arcE lo hi) := by

  unfold arcE

  split

  · rename_i h; exact arcQ_n (re_ok h).2.2

  · have := re_vals (-1099511627776) 1099511627776 lo hi; exact be_n (by omega)

theorem unit_n (n d : Int) : BqN (unitQ n d) := by

  unfold unitQ

  split

  · rename_i h; exact arcQ_n (unit_rng h.1 h.2).2.2.1

  · exact be_n (by decide)

theorem arcs {x0 x1 x2 x3 : Int} (r0 : I64 x0) (r1 : I64 x1) (r2 : I64 x2) (r3 : I64 x3) : Spec Try.prog etalonlaw01_BallArcs_s ⟨[x0, x1, x2, x3], [], []⟩ [] [true] [] :=

  outt (bar r0 r1 r2 r3 (R := (· = true)) ⟨_, awake_t, fun _ => ⟨_, _, _, _, Arc_p r0 r1, _, _, _, _, Unit_p r2 r3, _, _, _, _, Arc_r r0 r1, _, _, _, _, Unit_r r2 r3, _, (arcE_n x0 x1).is, fun _ => ⟨_, (unit_n x2 x3).is, rfl⟩, fun h => by cases h⟩, fun h => by cases h⟩)

end Go.Proofs.Ytgdhpgjfebinhaa.Ev
