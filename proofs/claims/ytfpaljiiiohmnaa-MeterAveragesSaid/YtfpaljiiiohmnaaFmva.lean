/- MeterAverages: what readings have in common. -/
import Derived.Test.YtfpaljiiiohmnaaFcrd
import Derived.Test.YtfpaljiiiohmnaaFaw6
namespace Go.Proofs.Ytfpaljiiiohmnaa.Ev
set_option linter.unusedSimpArgs false
open Go Go.RowKit
set_option linter.unusedVariables false
set_option maxRecDepth 100000
def meter_Averaged_s : Sig := ⟨7, ⟨1, 0, 10⟩, ⟨12, 0, 0⟩, [(.asl 0 (.var 0))], [(some ⟨[], 29, true, false, (some ⟨(.var 0), [.str, (.int .i64), (.int .i64), (.int .i64), (.int .i64), (.int .i64), (.int .i64), (.int .i64), (.int .i64), (.int .i64)], [(.avar 0), (.avar 1), (.avar 2), (.avar 3), (.avar 4), (.avar 5), (.avar 6), (.avar 7), (.avar 8), (.avar 9)]⟩)⟩)], (.tuple [(.agg [(.strn (.var 1)), (.int .i64 (.var 2)), (.int .i64 (.var 3)), (.int .i64 (.var 4)), (.int .i64 (.var 5)), (.int .i64 (.var 6)), (.int .i64 (.var 7)), (.int .i64 (.var 8)), (.int .i64 (.var 9)), (.int .i64 (.var 10))]), (.int .i64 (.var 11)), (.int .i64 (.var 12))]), []⟩
def etalonref06_CheckReading_s : Sig := ⟨25, ⟨10, 0, 0⟩, ⟨1, 0, 0⟩, [(.agg [(.strn (.var 0)), (.int .i64 (.var 1)), (.int .i64 (.var 2)), (.int .i64 (.var 3)), (.int .i64 (.var 4)), (.int .i64 (.var 5)), (.int .i64 (.var 6)), (.int .i64 (.var 7)), (.int .i64 (.var 8)), (.int .i64 (.var 9))])], [], (.int .i64 (.var 10)), []⟩
def etalonref06_common_s : Sig := ⟨26, ⟨4, 0, 0⟩, ⟨2, 1, 0⟩, [(.agg [(.int .i64 (.var 0)), (.int .i64 (.var 1))]), (.agg [(.int .i64 (.var 2)), (.int .i64 (.var 3))])], [], (.tuple [(.agg [(.int .i64 (.var 4)), (.int .i64 (.var 5))]), (.bool (.var 0))]), []⟩
def etalonref06_Averaged_s : Sig := ⟨8, ⟨1, 0, 10⟩, ⟨12, 0, 0⟩, [(.asl 0 (.var 0))], [(some ⟨[], 29, true, false, (some ⟨(.var 0), [.str, (.int .i64), (.int .i64), (.int .i64), (.int .i64), (.int .i64), (.int .i64), (.int .i64), (.int .i64), (.int .i64)], [(.avar 0), (.avar 1), (.avar 2), (.avar 3), (.avar 4), (.avar 5), (.avar 6), (.avar 7), (.avar 8), (.avar 9)]⟩)⟩)], (.tuple [(.agg [(.strn (.var 1)), (.int .i64 (.var 2)), (.int .i64 (.var 3)), (.int .i64 (.var 4)), (.int .i64 (.var 5)), (.int .i64 (.var 6)), (.int .i64 (.var 7)), (.int .i64 (.var 8)), (.int .i64 (.var 9)), (.int .i64 (.var 10))]), (.int .i64 (.var 11)), (.int .i64 (.var 12))]), []⟩
def etalonlaw06_inside_s : Sig := ⟨9, ⟨4, 0, 0⟩, ⟨0, 1, 0⟩, [(.agg [(.int .i64 (.var 0)), (.int .i64 (.var 1))]), (.agg [(.int .i64 (.var 2)), (.int .i64 (.var 3))])], [], (.bool (.var 0)), []⟩
def etalonlaw06_MeterAverages_s : Sig := ⟨3, ⟨1, 0, 10⟩, ⟨0, 1, 0⟩, [(.asl 0 (.var 0))], [(some ⟨[], 29, true, false, (some ⟨(.var 0), [.str, (.int .i64), (.int .i64), (.int .i64), (.int .i64), (.int .i64), (.int .i64), (.int .i64), (.int .i64), (.int .i64)], [(.avar 0), (.avar 1), (.avar 2), (.avar 3), (.avar 4), (.avar 5), (.avar 6), (.avar 7), (.avar 8), (.avar 9)]⟩)⟩)], (.bool (.var 0)), []⟩

def rcr_t : Tr :=
  (.call etalonbase_IsName_s ⟨[(.var 0)], [], []⟩ ⟨[(.var 0)], [(.var 0)], []⟩ ⟨67, [(.strn (.var 0))], [], [none, none], (.bool (.var 0)), []⟩
  (.ite (.var 0)
  (.ite (.icmp .leq (.lit 1000) (.var 1))
   (.ite (.icmp .leq (.var 1) (.lit 200000))
    (.ite (.icmp .leq (.lit 5000) (.var 2))
     (.ite (.icmp .leq (.var 2) (.lit 80000))
      (.ite (.icmp .leq (.lit 0) (.var 3))
       (.ite (.icmp .leq (.var 3) (.lit 9999))
        (.ite (.icmp .leq (.lit (-1048576)) (.var 4))
         (.ite (.icmp .leq (.var 4) (.lit 1048576))
          (.ite (.icmp .leq (.lit (-1048576)) (.var 5))
           (.ite (.icmp .leq (.var 5) (.lit 1048576))
            (.ite (.icmp .leq (.var 4) (.var 5))
             (.ite (.icmp .leq (.lit (-1048576)) (.var 6))
              (.ite (.icmp .leq (.var 6) (.lit 1048576))
               (.ite (.icmp .leq (.lit (-1048576)) (.var 7))
                (.ite (.icmp .leq (.var 7) (.lit 1048576))
                 (.ite (.icmp .leq (.var 6) (.var 7))
                  (.ite (.icmp .leq (.lit (-1048576)) (.var 8))
                   (.ite (.icmp .leq (.var 8) (.lit 1048576))
                    (.ite (.icmp .leq (.lit (-1048576)) (.var 9))
                     (.ite (.icmp .leq (.var 9) (.lit 1048576))
                      (.ite (.icmp .leq (.var 8) (.var 9))
                       (.ret ⟨[(.lit 0)], [], []⟩ [])
                       (.ret ⟨[(.lit 10)], [], []⟩ []))
                      (.ret ⟨[(.lit 2)], [], []⟩ []))
                     (.ret ⟨[(.lit 2)], [], []⟩ []))
                    (.ret ⟨[(.lit 2)], [], []⟩ []))
                   (.ret ⟨[(.lit 2)], [], []⟩ []))
                  (.ret ⟨[(.lit 10)], [], []⟩ []))
                 (.ret ⟨[(.lit 2)], [], []⟩ []))
                (.ret ⟨[(.lit 2)], [], []⟩ []))
               (.ret ⟨[(.lit 2)], [], []⟩ []))
              (.ret ⟨[(.lit 2)], [], []⟩ []))
             (.ret ⟨[(.lit 10)], [], []⟩ []))
            (.ret ⟨[(.lit 2)], [], []⟩ []))
           (.ret ⟨[(.lit 2)], [], []⟩ []))
          (.ret ⟨[(.lit 2)], [], []⟩ []))
         (.ret ⟨[(.lit 2)], [], []⟩ []))
        (.ret ⟨[(.lit 2)], [], []⟩ []))
       (.ret ⟨[(.lit 2)], [], []⟩ []))
      (.ret ⟨[(.lit 2)], [], []⟩ []))
     (.ret ⟨[(.lit 2)], [], []⟩ []))
    (.ret ⟨[(.lit 2)], [], []⟩ []))
   (.ret ⟨[(.lit 2)], [], []⟩ []))
  (.ret ⟨[(.lit 3)], [], []⟩ [])))
theorem rcr {x0 x1 x2 x3 x4 x5 x6 x7 x8 x9 : Int} (r1 : (-9223372036854775808) ≤ x1 ∧ x1 ≤ 9223372036854775807) (r2 : (-9223372036854775808) ≤ x2 ∧ x2 ≤ 9223372036854775807) (r3 : (-9223372036854775808) ≤ x3 ∧ x3 ≤ 9223372036854775807) (r4 : (-9223372036854775808) ≤ x4 ∧ x4 ≤ 9223372036854775807) (r5 : (-9223372036854775808) ≤ x5 ∧ x5 ≤ 9223372036854775807) (r6 : (-9223372036854775808) ≤ x6 ∧ x6 ≤ 9223372036854775807) (r7 : (-9223372036854775808) ≤ x7 ∧ x7 ≤ 9223372036854775807) (r8 : (-9223372036854775808) ≤ x8 ∧ x8 ≤ 9223372036854775807) (r9 : (-9223372036854775808) ≤ x9 ∧ x9 ≤ 9223372036854775807) {R : Int → Prop}
  (H : (∃ u0 : Bool, Spec Try.prog etalonbase_IsName_s ⟨[x0], [], []⟩ [] [u0] [] ∧
   ((u0 = true → ((decide ((1000 : Int) ≤ x1) = true → ((decide ((x1 : Int) ≤ 200000) = true → ((decide ((5000 : Int) ≤ x2) = true → ((decide ((x2 : Int) ≤ 80000) = true → ((decide ((0 : Int) ≤ x3) = true → ((decide ((x3 : Int) ≤ 9999) = true → ((decide (((-1048576) : Int) ≤ x4) = true → ((decide ((x4 : Int) ≤ 1048576) = true → ((decide (((-1048576) : Int) ≤ x5) = true → ((decide ((x5 : Int) ≤ 1048576) = true → ((decide ((x4 : Int) ≤ x5) = true → ((decide (((-1048576) : Int) ≤ x6) = true → ((decide ((x6 : Int) ≤ 1048576) = true → ((decide (((-1048576) : Int) ≤ x7) = true → ((decide ((x7 : Int) ≤ 1048576) = true → ((decide ((x6 : Int) ≤ x7) = true → ((decide (((-1048576) : Int) ≤ x8) = true → ((decide ((x8 : Int) ≤ 1048576) = true → ((decide (((-1048576) : Int) ≤ x9) = true → ((decide ((x9 : Int) ≤ 1048576) = true → ((decide ((x8 : Int) ≤ x9) = true → R (0)) ∧
                        (decide ((x8 : Int) ≤ x9) = false → R (10)))) ∧
                       (decide ((x9 : Int) ≤ 1048576) = false → R (2)))) ∧
                      (decide (((-1048576) : Int) ≤ x9) = false → R (2)))) ∧
                     (decide ((x8 : Int) ≤ 1048576) = false → R (2)))) ∧
                    (decide (((-1048576) : Int) ≤ x8) = false → R (2)))) ∧
                   (decide ((x6 : Int) ≤ x7) = false → R (10)))) ∧
                  (decide ((x7 : Int) ≤ 1048576) = false → R (2)))) ∧
                 (decide (((-1048576) : Int) ≤ x7) = false → R (2)))) ∧
                (decide ((x6 : Int) ≤ 1048576) = false → R (2)))) ∧
               (decide (((-1048576) : Int) ≤ x6) = false → R (2)))) ∧
              (decide ((x4 : Int) ≤ x5) = false → R (10)))) ∧
             (decide ((x5 : Int) ≤ 1048576) = false → R (2)))) ∧
            (decide (((-1048576) : Int) ≤ x5) = false → R (2)))) ∧
           (decide ((x4 : Int) ≤ 1048576) = false → R (2)))) ∧
          (decide (((-1048576) : Int) ≤ x4) = false → R (2)))) ∧
         (decide ((x3 : Int) ≤ 9999) = false → R (2)))) ∧
        (decide ((0 : Int) ≤ x3) = false → R (2)))) ∧
       (decide ((x2 : Int) ≤ 80000) = false → R (2)))) ∧
      (decide ((5000 : Int) ≤ x2) = false → R (2)))) ∧
     (decide ((x1 : Int) ≤ 200000) = false → R (2)))) ∧
    (decide ((1000 : Int) ≤ x1) = false → R (2)))) ∧
   (u0 = false → R (3))))) :
    ∃ v0 : Int, R v0 ∧ Spec Try.prog etalonref06_CheckReading_s ⟨[x0, x1, x2, x3, x4, x5, x6, x7, x8, x9], [], []⟩ [v0] [] [] :=
  Eq.mp (by kernel_rfl) (exV_of (K := fun d => app3 etalonref06_CheckReading_s.out R d ∧ Spec Try.prog etalonref06_CheckReading_s ⟨[x0, x1, x2, x3, x4, x5, x6, x7, x8, x9], [], []⟩ d.1 d.2.1 d.2.2) (tree_at mixed names S1_ok (S := S1 Try.prog) (lf := 100000) (d := 60) etalonref06_CheckReading_s rcr_t { ivs := [(1, (-9223372036854775808), 9223372036854775807), (2, (-9223372036854775808), 9223372036854775807), (3, (-9223372036854775808), 9223372036854775807), (4, (-9223372036854775808), 9223372036854775807), (5, (-9223372036854775808), 9223372036854775807), (6, (-9223372036854775808), 9223372036854775807), (7, (-9223372036854775808), 9223372036854775807), (8, (-9223372036854775808), 9223372036854775807), (9, (-9223372036854775808), 9223372036854775807)], aivs := [] } ⟨[x0, x1, x2, x3, x4, x5, x6, x7, x8, x9], [], []⟩ rfl (by kernel_rfl) (by kernel_rfl) (by kernel_rfl) ⟨(fc r1 (fc r2 (fc r3 (fc r4 (fc r5 (fc r6 (fc r7 (fc r8 (fc r9 fz))))))))), fz, fz, fz⟩ (R := fun d => app3 etalonref06_CheckReading_s.out R d) (Eq.mp (by kernel_rfl) H)))

def mco_t : Tr :=
  (.ret ⟨[(.bin .maxI (.var 0) (.var 2)), (.bin .minI (.var 1) (.var 3))], [(.icmp .leq (.bin .maxI (.var 0) (.var 2)) (.bin .minI (.var 1) (.var 3)))], []⟩ [])
theorem mco {x0 x1 x2 x3 : Int} (r0 : (-9223372036854775808) ≤ x0 ∧ x0 ≤ 9223372036854775807) (r1 : (-9223372036854775808) ≤ x1 ∧ x1 ≤ 9223372036854775807) (r2 : (-9223372036854775808) ≤ x2 ∧ x2 ≤ 9223372036854775807) (r3 : (-9223372036854775808) ≤ x3 ∧ x3 ≤ 9223372036854775807) {R : Int → Int → Bool → Prop}
  (H : R ((if (x2 : Int) > x0 then x2 else x0)) ((if (x3 : Int) < x1 then x3 else x1)) (decide (((if (x2 : Int) > x0 then x2 else x0) : Int) ≤ (if (x3 : Int) < x1 then x3 else x1)))) :
    ∃ v0 : Int, ∃ v1 : Int, ∃ u0 : Bool, R v0 v1 u0 ∧ Spec Try.prog etalonref06_common_s ⟨[x0, x1, x2, x3], [], []⟩ [v0, v1] [u0] [] :=
  Eq.mp (by kernel_rfl) (exV_of (K := fun d => app3 etalonref06_common_s.out R d ∧ Spec Try.prog etalonref06_common_s ⟨[x0, x1, x2, x3], [], []⟩ d.1 d.2.1 d.2.2) (tree_at mixed names S1_ok (S := S1 Try.prog) (lf := 100000) (d := 60) etalonref06_common_s mco_t { ivs := [(0, (-9223372036854775808), 9223372036854775807), (1, (-9223372036854775808), 9223372036854775807), (2, (-9223372036854775808), 9223372036854775807), (3, (-9223372036854775808), 9223372036854775807)], aivs := [] } ⟨[x0, x1, x2, x3], [], []⟩ rfl (by kernel_rfl) (by kernel_rfl) (by kernel_rfl) ⟨(fc r0 (fc r1 (fc r2 (fc r3 fz)))), fz, fz, fz⟩ (R := fun d => app3 etalonref06_common_s.out R d) (Eq.mp (by kernel_rfl) H)))

def ins_t : Tr :=
  (.ite (.icmp .leq (.var 2) (.var 0))
  (.ret ⟨[], [(.icmp .leq (.var 1) (.var 3))], []⟩ [])
  (.ret ⟨[], [(.lit false)], []⟩ []))
theorem ins {x0 x1 x2 x3 : Int} (r0 : (-9223372036854775808) ≤ x0 ∧ x0 ≤ 9223372036854775807) (r1 : (-9223372036854775808) ≤ x1 ∧ x1 ≤ 9223372036854775807) (r2 : (-9223372036854775808) ≤ x2 ∧ x2 ≤ 9223372036854775807) (r3 : (-9223372036854775808) ≤ x3 ∧ x3 ≤ 9223372036854775807) {R : Bool → Prop}
  (H : ((decide ((x2 : Int) ≤ x0) = true → R (decide ((x1 : Int) ≤ x3))) ∧
   (decide ((x2 : Int) ≤ x0) = false → R (false)))) :
    ∃ u0 : Bool, R u0 ∧ Spec Try.prog etalonlaw06_inside_s ⟨[x0, x1, x2, x3], [], []⟩ [] [u0] [] :=
  Eq.mp (by kernel_rfl) (exV_of (K := fun d => app3 etalonlaw06_inside_s.out R d ∧ Spec Try.prog etalonlaw06_inside_s ⟨[x0, x1, x2, x3], [], []⟩ d.1 d.2.1 d.2.2) (tree_at mixed names S1_ok (S := S1 Try.prog) (lf := 100000) (d := 60) etalonlaw06_inside_s ins_t { ivs := [(0, (-9223372036854775808), 9223372036854775807), (1, (-9223372036854775808), 9223372036854775807), (2, (-9223372036854775808), 9223372036854775807), (3, (-9223372036854775808), 9223372036854775807)], aivs := [] } ⟨[x0, x1, x2, x3], [], []⟩ rfl (by kernel_rfl) (by kernel_rfl) (by kernel_rfl) ⟨(fc r0 (fc r1 (fc r2 (fc r3 fz)))), fz, fz, fz⟩ (R := fun d => app3 etalonlaw06_inside_s.out R d) (Eq.mp (by kernel_rfl) H)))

def mav_t : Tr :=
  (.ite (.icmp .eql (.var 0) (.lit 0))
  (.ret ⟨[(.lit 0), (.lit 0), (.lit 0), (.lit 0), (.lit 0), (.lit 0), (.lit 0), (.lit 0), (.lit 0), (.lit 0), (.lit 0), (.lit 12)], [], []⟩ [])
  (.ite (.icmp .leq (.var 0) (.lit 20))
   (.loop ⟨7, [0, 1, 0, 1, 1, 1, 1], [(.asl 0 (.var 0)), (.tuple []), (.ptr (some ⟨1, 0, none⟩)), (.int .i64 (.lit 0)), (.int .i64 (.lit 0)), (.ptr (some ⟨2, 0, none⟩)), (.tuple []), (.tuple []), (.tuple []), (.asl 0 (.var 0)), (.int .i64 (.var 0)), (.bool (.icmp .eql (.var 0) (.lit 0))), (.tuple []), (.asl 0 (.var 0)), (.int .i64 (.var 0)), (.bool (.icmp .gtr (.var 0) (.lit 20))), (.tuple []), (.asl 0 (.var 0)), (.eptr 0 (.lit 0) 10 0), (.agg [(.strn (.sel (.avar 0) (.lit 0))), (.int .i64 (.sel (.avar 1) (.lit 0))), (.int .i64 (.sel (.avar 2) (.lit 0))), (.int .i64 (.sel (.avar 3) (.lit 0))), (.int .i64 (.sel (.avar 4) (.lit 0))), (.int .i64 (.sel (.avar 5) (.lit 0))), (.int .i64 (.sel (.avar 6) (.lit 0))), (.int .i64 (.sel (.avar 7) (.lit 0))), (.int .i64 (.sel (.avar 8) (.lit 0))), (.int .i64 (.sel (.avar 9) (.lit 0)))]), (.asl 0 (.var 0)), (.int .i64 (.var 0)), (.int .i64 (.lit 0)), (.tuple []), (.tuple []), (.tuple []), (.tuple []), (.tuple []), (.tuple []), (.tuple []), (.tuple []), (.tuple []), (.tuple []), (.tuple []), (.tuple []), (.tuple []), (.tuple []), (.tuple []), (.tuple []), (.tuple []), (.tuple []), (.tuple []), (.tuple []), (.tuple [])], [(some ⟨[], 29, true, false, (some ⟨(.var 0), [.str, (.int .i64), (.int .i64), (.int .i64), (.int .i64), (.int .i64), (.int .i64), (.int .i64), (.int .i64), (.int .i64)], [(.avar 0), (.avar 1), (.avar 2), (.avar 3), (.avar 4), (.avar 5), (.avar 6), (.avar 7), (.avar 8), (.avar 9)]⟩)⟩), (some ⟨[(.str ⟨#[]⟩), (.int .i64 (.lit 0)), (.int .i64 (.lit 0)), (.int .i64 (.lit 0)), (.int .i64 (.lit 0)), (.int .i64 (.lit 0)), (.int .i64 (.lit 0)), (.int .i64 (.lit 0)), (.int .i64 (.lit 0)), (.int .i64 (.lit 0))], 29, false, false, none⟩), (some ⟨[(.strn (.sel (.avar 0) (.lit 0))), (.int .i64 (.sel (.avar 1) (.lit 0))), (.int .i64 (.sel (.avar 2) (.lit 0))), (.int .i64 (.sel (.avar 3) (.lit 0))), (.int .i64 (.sel (.avar 4) (.lit 0))), (.int .i64 (.sel (.avar 5) (.lit 0))), (.int .i64 (.sel (.avar 6) (.lit 0))), (.int .i64 (.sel (.avar 7) (.lit 0))), (.int .i64 (.sel (.avar 8) (.lit 0))), (.int .i64 (.sel (.avar 9) (.lit 0)))], 29, false, false, none⟩)], [], [(.asl 0 (.var 0)), (.tuple []), (.ptr (some ⟨1, 0, none⟩)), (.int .i64 (.lit 0)), (.int .i64 (.lit 0)), (.ptr (some ⟨2, 0, none⟩)), (.any 6), (.any 7), (.any 8), (.asl 0 (.var 0)), (.int .i64 (.var 0)), (.bool (.icmp .eql (.var 0) (.lit 0))), (.tuple []), (.asl 0 (.var 0)), (.int .i64 (.var 0)), (.bool (.icmp .gtr (.var 0) (.lit 20))), (.tuple []), (.asl 0 (.var 0)), (.eptr 0 (.lit 0) 10 0), (.agg [(.strn (.sel (.avar 0) (.lit 0))), (.int .i64 (.sel (.avar 1) (.lit 0))), (.int .i64 (.sel (.avar 2) (.lit 0))), (.int .i64 (.sel (.avar 3) (.lit 0))), (.int .i64 (.sel (.avar 4) (.lit 0))), (.int .i64 (.sel (.avar 5) (.lit 0))), (.int .i64 (.sel (.avar 6) (.lit 0))), (.int .i64 (.sel (.avar 7) (.lit 0))), (.int .i64 (.sel (.avar 8) (.lit 0))), (.int .i64 (.sel (.avar 9) (.lit 0)))]), (.asl 0 (.var 0)), (.int .i64 (.var 0)), (.int .i64 (.var 1)), (.any 23), (.any 24), (.any 25), (.any 26), (.any 27), (.any 28), (.any 29), (.any 30), (.any 31), (.any 32), (.any 33), (.any 34), (.any 35), (.any 36), (.any 37), (.any 38), (.tuple []), (.tuple []), (.tuple []), (.any 42), (.tuple [])], [(some ⟨[], 29, true, false, (some ⟨(.var 0), [.str, (.int .i64), (.int .i64), (.int .i64), (.int .i64), (.int .i64), (.int .i64), (.int .i64), (.int .i64), (.int .i64)], [(.avar 0), (.avar 1), (.avar 2), (.avar 3), (.avar 4), (.avar 5), (.avar 6), (.avar 7), (.avar 8), (.avar 9)]⟩)⟩), (some ⟨[(.str ⟨#[]⟩), (.int .i64 (.lit 0)), (.int .i64 (.lit 0)), (.int .i64 (.lit 0)), (.int .i64 (.lit 0)), (.int .i64 (.lit 0)), (.int .i64 (.lit 0)), (.int .i64 (.lit 0)), (.int .i64 (.lit 0)), (.int .i64 (.lit 0))], 29, false, false, none⟩), (some ⟨[(.strn (.sel (.avar 0) (.lit 0))), (.int .i64 (.sel (.avar 1) (.lit 0))), (.int .i64 (.sel (.avar 2) (.lit 0))), (.int .i64 (.sel (.avar 3) (.lit 0))), (.int .i64 (.var 2)), (.int .i64 (.var 3)), (.int .i64 (.var 4)), (.int .i64 (.var 5)), (.int .i64 (.var 6)), (.int .i64 (.var 7))], 29, false, false, none⟩)], [1, 2], ⟨7, 0, 0⟩, ⟨[(.lit 0), (.sel (.avar 4) (.lit 0)), (.sel (.avar 5) (.lit 0)), (.sel (.avar 6) (.lit 0)), (.sel (.avar 7) (.lit 0)), (.sel (.avar 8) (.lit 0)), (.sel (.avar 9) (.lit 0))], [], []⟩, []⟩
    (.rng 1 0 20 (.rng 2 (-9223372036854775808) 9223372036854775807 (.rng 3 (-9223372036854775808) 9223372036854775807 (.rng 4 (-9223372036854775808) 9223372036854775807 (.rng 5 (-9223372036854775808) 9223372036854775807 (.rng 6 (-9223372036854775808) 9223372036854775807 (.rng 7 (-9223372036854775808) 9223372036854775807 (.ite (.icmp .leq (.var 0) (.var 1))
     (.out 1 ⟨[(.var 2), (.var 3), (.var 4), (.var 5), (.var 6), (.var 7)], [], []⟩ [])
     (.call meter_CheckReading_s ⟨[(.sel (.avar 0) (.var 1)), (.sel (.avar 1) (.var 1)), (.sel (.avar 2) (.var 1)), (.sel (.avar 3) (.var 1)), (.sel (.avar 4) (.var 1)), (.sel (.avar 5) (.var 1)), (.sel (.avar 6) (.var 1)), (.sel (.avar 7) (.var 1)), (.sel (.avar 8) (.var 1)), (.sel (.avar 9) (.var 1))], [], []⟩ ⟨[(.sel (.avar 0) (.var 1)), (.sel (.avar 1) (.var 1)), (.sel (.avar 2) (.var 1)), (.sel (.avar 3) (.var 1)), (.sel (.avar 4) (.var 1)), (.sel (.avar 5) (.var 1)), (.sel (.avar 6) (.var 1)), (.sel (.avar 7) (.var 1)), (.sel (.avar 8) (.var 1)), (.sel (.avar 9) (.var 1)), (.var 8)], [], []⟩ ⟨23, [(.agg [(.strn (.sel (.avar 0) (.var 1))), (.int .i64 (.sel (.avar 1) (.var 1))), (.int .i64 (.sel (.avar 2) (.var 1))), (.int .i64 (.sel (.avar 3) (.var 1))), (.int .i64 (.sel (.avar 4) (.var 1))), (.int .i64 (.sel (.avar 5) (.var 1))), (.int .i64 (.sel (.avar 6) (.var 1))), (.int .i64 (.sel (.avar 7) (.var 1))), (.int .i64 (.sel (.avar 8) (.var 1))), (.int .i64 (.sel (.avar 9) (.var 1)))])], [], [none, none, none, none], (.int .i64 (.var 8)), []⟩
      (.ite (.icmp .eql (.var 8) (.lit 0))
      (.ite (.icmp .eql (.sel (.avar 1) (.lit 0)) (.sel (.avar 1) (.var 1)))
       (.ite (.icmp .eql (.sel (.avar 2) (.lit 0)) (.sel (.avar 2) (.var 1)))
        (.ite (.icmp .eql (.sel (.avar 3) (.lit 0)) (.sel (.avar 3) (.var 1)))
         (.ite (.icmp .leq (.bin .maxI (.var 2) (.sel (.avar 4) (.var 1))) (.bin .minI (.var 3) (.sel (.avar 5) (.var 1))))
          (.ite (.icmp .leq (.bin .maxI (.var 4) (.sel (.avar 6) (.var 1))) (.bin .minI (.var 5) (.sel (.avar 7) (.var 1))))
           (.ite (.icmp .leq (.bin .maxI (.var 6) (.sel (.avar 8) (.var 1))) (.bin .minI (.var 7) (.sel (.avar 9) (.var 1))))
            (.next ⟨[(.bin .addI (.var 1) (.lit 1)), (.bin .maxI (.var 2) (.sel (.avar 4) (.var 1))), (.bin .minI (.var 3) (.sel (.avar 5) (.var 1))), (.bin .maxI (.var 4) (.sel (.avar 6) (.var 1))), (.bin .minI (.var 5) (.sel (.avar 7) (.var 1))), (.bin .maxI (.var 6) (.sel (.avar 8) (.var 1))), (.bin .minI (.var 7) (.sel (.avar 9) (.var 1)))], [], []⟩ [])
            (.out 0 ⟨[(.var 1), (.lit 14), (.lit 0), (.lit 0), (.lit 0), (.lit 0), (.lit 0), (.lit 0), (.lit 0), (.lit 0), (.lit 0), (.lit 0)], [], []⟩ []))
           (.ite (.icmp .leq (.bin .maxI (.var 6) (.sel (.avar 8) (.var 1))) (.bin .minI (.var 7) (.sel (.avar 9) (.var 1))))
            (.out 0 ⟨[(.var 1), (.lit 14), (.lit 0), (.lit 0), (.lit 0), (.lit 0), (.lit 0), (.lit 0), (.lit 0), (.lit 0), (.lit 0), (.lit 0)], [], []⟩ [])
            (.out 0 ⟨[(.var 1), (.lit 14), (.lit 0), (.lit 0), (.lit 0), (.lit 0), (.lit 0), (.lit 0), (.lit 0), (.lit 0), (.lit 0), (.lit 0)], [], []⟩ [])))
          (.ite (.icmp .leq (.bin .maxI (.var 4) (.sel (.avar 6) (.var 1))) (.bin .minI (.var 5) (.sel (.avar 7) (.var 1))))
           (.ite (.icmp .leq (.bin .maxI (.var 6) (.sel (.avar 8) (.var 1))) (.bin .minI (.var 7) (.sel (.avar 9) (.var 1))))
            (.out 0 ⟨[(.var 1), (.lit 14), (.lit 0), (.lit 0), (.lit 0), (.lit 0), (.lit 0), (.lit 0), (.lit 0), (.lit 0), (.lit 0), (.lit 0)], [], []⟩ [])
            (.out 0 ⟨[(.var 1), (.lit 14), (.lit 0), (.lit 0), (.lit 0), (.lit 0), (.lit 0), (.lit 0), (.lit 0), (.lit 0), (.lit 0), (.lit 0)], [], []⟩ []))
           (.ite (.icmp .leq (.bin .maxI (.var 6) (.sel (.avar 8) (.var 1))) (.bin .minI (.var 7) (.sel (.avar 9) (.var 1))))
            (.out 0 ⟨[(.var 1), (.lit 14), (.lit 0), (.lit 0), (.lit 0), (.lit 0), (.lit 0), (.lit 0), (.lit 0), (.lit 0), (.lit 0), (.lit 0)], [], []⟩ [])
            (.out 0 ⟨[(.var 1), (.lit 14), (.lit 0), (.lit 0), (.lit 0), (.lit 0), (.lit 0), (.lit 0), (.lit 0), (.lit 0), (.lit 0), (.lit 0)], [], []⟩ []))))
         (.out 0 ⟨[(.var 1), (.lit 25), (.lit 0), (.lit 0), (.lit 0), (.lit 0), (.lit 0), (.lit 0), (.lit 0), (.lit 0), (.lit 0), (.lit 0)], [], []⟩ []))
        (.out 0 ⟨[(.var 1), (.lit 25), (.lit 0), (.lit 0), (.lit 0), (.lit 0), (.lit 0), (.lit 0), (.lit 0), (.lit 0), (.lit 0), (.lit 0)], [], []⟩ []))
       (.out 0 ⟨[(.var 1), (.lit 25), (.lit 0), (.lit 0), (.lit 0), (.lit 0), (.lit 0), (.lit 0), (.lit 0), (.lit 0), (.lit 0), (.lit 0)], [], []⟩ []))
      (.out 0 ⟨[(.var 1), (.var 8), (.sel (.avar 0) (.lit 0)), (.sel (.avar 1) (.lit 0)), (.sel (.avar 2) (.lit 0)), (.sel (.avar 3) (.lit 0)), (.var 2), (.var 3), (.var 4), (.var 5), (.var 6), (.var 7)], [], []⟩ [])))))))))))
    (.ex (.ret, [(.asl 0 (.var 0)), (.tuple []), (.ptr (some ⟨1, 0, none⟩)), (.int .i64 (.var 1)), (.int .i64 (.var 2)), (.ptr (some ⟨2, 0, none⟩)), (.any 6), (.any 7), (.any 8), (.asl 0 (.var 0)), (.int .i64 (.var 0)), (.bool (.icmp .eql (.var 0) (.lit 0))), (.tuple []), (.asl 0 (.var 0)), (.int .i64 (.var 0)), (.bool (.icmp .gtr (.var 0) (.lit 20))), (.tuple []), (.asl 0 (.var 0)), (.eptr 0 (.lit 0) 10 0), (.agg [(.strn (.sel (.avar 0) (.lit 0))), (.int .i64 (.sel (.avar 1) (.lit 0))), (.int .i64 (.sel (.avar 2) (.lit 0))), (.int .i64 (.sel (.avar 3) (.lit 0))), (.int .i64 (.sel (.avar 4) (.lit 0))), (.int .i64 (.sel (.avar 5) (.lit 0))), (.int .i64 (.sel (.avar 6) (.lit 0))), (.int .i64 (.sel (.avar 7) (.lit 0))), (.int .i64 (.sel (.avar 8) (.lit 0))), (.int .i64 (.sel (.avar 9) (.lit 0)))]), (.asl 0 (.var 0)), (.int .i64 (.var 0)), (.any 22), (.any 23), (.any 24), (.any 25), (.any 26), (.any 27), (.any 28), (.any 29), (.any 30), (.any 31), (.any 32), (.any 33), (.any 34), (.any 35), (.any 36), (.any 37), (.any 38), (.any 39), (.any 40), (.any 41), (.any 42), (.tuple [])], [(some ⟨[], 29, true, false, (some ⟨(.var 0), [.str, (.int .i64), (.int .i64), (.int .i64), (.int .i64), (.int .i64), (.int .i64), (.int .i64), (.int .i64), (.int .i64)], [(.avar 0), (.avar 1), (.avar 2), (.avar 3), (.avar 4), (.avar 5), (.avar 6), (.avar 7), (.avar 8), (.avar 9)]⟩)⟩), (some ⟨[(.str ⟨#[]⟩), (.int .i64 (.lit 0)), (.int .i64 (.lit 0)), (.int .i64 (.lit 0)), (.int .i64 (.lit 0)), (.int .i64 (.lit 0)), (.int .i64 (.lit 0)), (.int .i64 (.lit 0)), (.int .i64 (.lit 0)), (.int .i64 (.lit 0))], 29, false, false, none⟩), (some ⟨[(.strn (.var 3)), (.int .i64 (.var 4)), (.int .i64 (.var 5)), (.int .i64 (.var 6)), (.int .i64 (.var 7)), (.int .i64 (.var 8)), (.int .i64 (.var 9)), (.int .i64 (.var 10)), (.int .i64 (.var 11)), (.int .i64 (.var 12))], 29, false, false, none⟩)], [1, 2]) ⟨12, 0, 0⟩
    (.rng 1 (-9223372036854775808) 9223372036854775807 (.rng 2 (-9223372036854775808) 9223372036854775807 (.rng 4 (-9223372036854775808) 9223372036854775807 (.rng 5 (-9223372036854775808) 9223372036854775807 (.rng 6 (-9223372036854775808) 9223372036854775807 (.rng 7 (-9223372036854775808) 9223372036854775807 (.rng 8 (-9223372036854775808) 9223372036854775807 (.rng 9 (-9223372036854775808) 9223372036854775807 (.rng 10 (-9223372036854775808) 9223372036854775807 (.rng 11 (-9223372036854775808) 9223372036854775807 (.rng 12 (-9223372036854775808) 9223372036854775807 (.ret ⟨[(.lit 0), (.lit 0), (.lit 0), (.lit 0), (.lit 0), (.lit 0), (.lit 0), (.lit 0), (.lit 0), (.lit 0), (.var 1), (.var 2)], [], []⟩ []))))))))))))
    (.ex ((.exit 0), [(.asl 0 (.var 0)), (.tuple []), (.ptr (some ⟨1, 0, none⟩)), (.int .i64 (.lit 0)), (.int .i64 (.lit 0)), (.ptr (some ⟨2, 0, none⟩)), (.any 6), (.any 7), (.any 8), (.asl 0 (.var 0)), (.int .i64 (.var 0)), (.bool (.icmp .eql (.var 0) (.lit 0))), (.tuple []), (.asl 0 (.var 0)), (.int .i64 (.var 0)), (.bool (.icmp .gtr (.var 0) (.lit 20))), (.tuple []), (.asl 0 (.var 0)), (.eptr 0 (.lit 0) 10 0), (.agg [(.strn (.sel (.avar 0) (.lit 0))), (.int .i64 (.sel (.avar 1) (.lit 0))), (.int .i64 (.sel (.avar 2) (.lit 0))), (.int .i64 (.sel (.avar 3) (.lit 0))), (.int .i64 (.sel (.avar 4) (.lit 0))), (.int .i64 (.sel (.avar 5) (.lit 0))), (.int .i64 (.sel (.avar 6) (.lit 0))), (.int .i64 (.sel (.avar 7) (.lit 0))), (.int .i64 (.sel (.avar 8) (.lit 0))), (.int .i64 (.sel (.avar 9) (.lit 0)))]), (.asl 0 (.var 0)), (.int .i64 (.var 0)), (.any 22), (.any 23), (.any 24), (.any 25), (.any 26), (.any 27), (.any 28), (.any 29), (.any 30), (.any 31), (.any 32), (.any 33), (.any 34), (.any 35), (.any 36), (.any 37), (.any 38), (.tuple []), (.tuple []), (.tuple []), (.any 42), (.tuple [])], [(some ⟨[], 29, true, false, (some ⟨(.var 0), [.str, (.int .i64), (.int .i64), (.int .i64), (.int .i64), (.int .i64), (.int .i64), (.int .i64), (.int .i64), (.int .i64)], [(.avar 0), (.avar 1), (.avar 2), (.avar 3), (.avar 4), (.avar 5), (.avar 6), (.avar 7), (.avar 8), (.avar 9)]⟩)⟩), (some ⟨[(.str ⟨#[]⟩), (.int .i64 (.lit 0)), (.int .i64 (.lit 0)), (.int .i64 (.lit 0)), (.int .i64 (.lit 0)), (.int .i64 (.lit 0)), (.int .i64 (.lit 0)), (.int .i64 (.lit 0)), (.int .i64 (.lit 0)), (.int .i64 (.lit 0))], 29, false, false, none⟩), (some ⟨[(.strn (.sel (.avar 0) (.lit 0))), (.int .i64 (.sel (.avar 1) (.lit 0))), (.int .i64 (.sel (.avar 2) (.lit 0))), (.int .i64 (.sel (.avar 3) (.lit 0))), (.int .i64 (.var 1)), (.int .i64 (.var 2)), (.int .i64 (.var 3)), (.int .i64 (.var 4)), (.int .i64 (.var 5)), (.int .i64 (.var 6))], 29, false, false, none⟩)], [1, 2]) ⟨6, 0, 0⟩
    (.rng 1 (-9223372036854775808) 9223372036854775807 (.rng 2 (-9223372036854775808) 9223372036854775807 (.rng 3 (-9223372036854775808) 9223372036854775807 (.rng 4 (-9223372036854775808) 9223372036854775807 (.rng 5 (-9223372036854775808) 9223372036854775807 (.rng 6 (-9223372036854775808) 9223372036854775807 (.ret ⟨[(.sel (.avar 0) (.lit 0)), (.sel (.avar 1) (.lit 0)), (.sel (.avar 2) (.lit 0)), (.sel (.avar 3) (.lit 0)), (.var 1), (.var 2), (.var 3), (.var 4), (.var 5), (.var 6), (.lit 0), (.lit 0)], [], []⟩ [])))))))
    .nil)))
   (.ret ⟨[(.lit 0), (.lit 0), (.lit 0), (.lit 0), (.lit 0), (.lit 0), (.lit 0), (.lit 0), (.lit 0), (.lit 0), (.lit 0), (.lit 8)], [], []⟩ [])))
theorem mav {x0 : Int} {f0 f1 f2 f3 f4 f5 f6 f7 f8 f9 : Int → Int} (r0 : 0 ≤ x0 ∧ x0 ≤ 22) (s1 : ∀ q, (-9223372036854775808) ≤ f1 q ∧ f1 q ≤ 9223372036854775807) (s2 : ∀ q, (-9223372036854775808) ≤ f2 q ∧ f2 q ≤ 9223372036854775807) (s3 : ∀ q, (-9223372036854775808) ≤ f3 q ∧ f3 q ≤ 9223372036854775807) (s4 : ∀ q, (-9223372036854775808) ≤ f4 q ∧ f4 q ≤ 9223372036854775807) (s5 : ∀ q, (-9223372036854775808) ≤ f5 q ∧ f5 q ≤ 9223372036854775807) (s6 : ∀ q, (-9223372036854775808) ≤ f6 q ∧ f6 q ≤ 9223372036854775807) (s7 : ∀ q, (-9223372036854775808) ≤ f7 q ∧ f7 q ≤ 9223372036854775807) (s8 : ∀ q, (-9223372036854775808) ≤ f8 q ∧ f8 q ≤ 9223372036854775807) (s9 : ∀ q, (-9223372036854775808) ≤ f9 q ∧ f9 q ≤ 9223372036854775807) {R : Int → Int → Int → Int → Int → Int → Int → Int → Int → Int → Int → Int → Prop}
  (H : ((((x0 : Int) == 0) = true → R (0) (0) (0) (0) (0) (0) (0) (0) (0) (0) (0) (12)) ∧
   (((x0 : Int) == 0) = false → ((decide ((x0 : Int) ≤ 20) = true → (∃ (I1 : Int → Int → Int → Int → Int → Int → Int → Prop) (rk1 : Int → Int → Int → Int → Int → Int → Int → Nat), I1 (0) ((f4 0)) ((f5 0)) ((f6 0)) ((f7 0)) ((f8 0)) ((f9 0)) ∧
     (∀ x1 : Int, ∀ x2 : Int, ∀ x3 : Int, ∀ x4 : Int, ∀ x5 : Int, ∀ x6 : Int, ∀ x7 : Int, I1 x1 x2 x3 x4 x5 x6 x7 → ((0 ≤ (x1 : Int) ∧ (x1 : Int) ≤ 20) ∧ (((-9223372036854775808) ≤ (x2 : Int) ∧ (x2 : Int) ≤ 9223372036854775807) ∧ (((-9223372036854775808) ≤ (x3 : Int) ∧ (x3 : Int) ≤ 9223372036854775807) ∧ (((-9223372036854775808) ≤ (x4 : Int) ∧ (x4 : Int) ≤ 9223372036854775807) ∧ (((-9223372036854775808) ≤ (x5 : Int) ∧ (x5 : Int) ≤ 9223372036854775807) ∧ (((-9223372036854775808) ≤ (x6 : Int) ∧ (x6 : Int) ≤ 9223372036854775807) ∧ (((-9223372036854775808) ≤ (x7 : Int) ∧ (x7 : Int) ≤ 9223372036854775807) ∧ ((decide ((x0 : Int) ≤ x1) = true → (((-9223372036854775808) ≤ ((x2) : Int) ∧ ((x2) : Int) ≤ 9223372036854775807) ∧ (((-9223372036854775808) ≤ ((x3) : Int) ∧ ((x3) : Int) ≤ 9223372036854775807) ∧ (((-9223372036854775808) ≤ ((x4) : Int) ∧ ((x4) : Int) ≤ 9223372036854775807) ∧ (((-9223372036854775808) ≤ ((x5) : Int) ∧ ((x5) : Int) ≤ 9223372036854775807) ∧ (((-9223372036854775808) ≤ ((x6) : Int) ∧ ((x6) : Int) ≤ 9223372036854775807) ∧ (((-9223372036854775808) ≤ ((x7) : Int) ∧ ((x7) : Int) ≤ 9223372036854775807) ∧ R ((f0 0)) ((f1 0)) ((f2 0)) ((f3 0)) ((x2)) ((x3)) ((x4)) ((x5)) ((x6)) ((x7)) (0) (0)))))))) ∧
      (decide ((x0 : Int) ≤ x1) = false → (∃ v8 : Int, Spec Try.prog meter_CheckReading_s ⟨[(f0 x1), (f1 x1), (f2 x1), (f3 x1), (f4 x1), (f5 x1), (f6 x1), (f7 x1), (f8 x1), (f9 x1)], [], []⟩ [v8] [] [] ∧
       ((((v8 : Int) == 0) = true → (((((f1 0) : Int) == (f1 x1)) = true → (((((f2 0) : Int) == (f2 x1)) = true → (((((f3 0) : Int) == (f3 x1)) = true → ((decide (((if ((f4 x1) : Int) > x2 then (f4 x1) else x2) : Int) ≤ (if ((f5 x1) : Int) < x3 then (f5 x1) else x3)) = true → ((decide (((if ((f6 x1) : Int) > x4 then (f6 x1) else x4) : Int) ≤ (if ((f7 x1) : Int) < x5 then (f7 x1) else x5)) = true → ((decide (((if ((f8 x1) : Int) > x6 then (f8 x1) else x6) : Int) ≤ (if ((f9 x1) : Int) < x7 then (f9 x1) else x7)) = true → (I1 ((x1 + 1)) ((if ((f4 x1) : Int) > x2 then (f4 x1) else x2)) ((if ((f5 x1) : Int) < x3 then (f5 x1) else x3)) ((if ((f6 x1) : Int) > x4 then (f6 x1) else x4)) ((if ((f7 x1) : Int) < x5 then (f7 x1) else x5)) ((if ((f8 x1) : Int) > x6 then (f8 x1) else x6)) ((if ((f9 x1) : Int) < x7 then (f9 x1) else x7)) ∧ rk1 ((x1 + 1)) ((if ((f4 x1) : Int) > x2 then (f4 x1) else x2)) ((if ((f5 x1) : Int) < x3 then (f5 x1) else x3)) ((if ((f6 x1) : Int) > x4 then (f6 x1) else x4)) ((if ((f7 x1) : Int) < x5 then (f7 x1) else x5)) ((if ((f8 x1) : Int) > x6 then (f8 x1) else x6)) ((if ((f9 x1) : Int) < x7 then (f9 x1) else x7)) < rk1 x1 x2 x3 x4 x5 x6 x7)) ∧
             (decide (((if ((f8 x1) : Int) > x6 then (f8 x1) else x6) : Int) ≤ (if ((f9 x1) : Int) < x7 then (f9 x1) else x7)) = false → (((-9223372036854775808) ≤ ((x1) : Int) ∧ ((x1) : Int) ≤ 9223372036854775807) ∧ (((-9223372036854775808) ≤ ((14) : Int) ∧ ((14) : Int) ≤ 9223372036854775807) ∧ (((-9223372036854775808) ≤ ((0) : Int) ∧ ((0) : Int) ≤ 9223372036854775807) ∧ (((-9223372036854775808) ≤ ((0) : Int) ∧ ((0) : Int) ≤ 9223372036854775807) ∧ (((-9223372036854775808) ≤ ((0) : Int) ∧ ((0) : Int) ≤ 9223372036854775807) ∧ (((-9223372036854775808) ≤ ((0) : Int) ∧ ((0) : Int) ≤ 9223372036854775807) ∧ (((-9223372036854775808) ≤ ((0) : Int) ∧ ((0) : Int) ≤ 9223372036854775807) ∧ (((-9223372036854775808) ≤ ((0) : Int) ∧ ((0) : Int) ≤ 9223372036854775807) ∧ (((-9223372036854775808) ≤ ((0) : Int) ∧ ((0) : Int) ≤ 9223372036854775807) ∧ (((-9223372036854775808) ≤ ((0) : Int) ∧ ((0) : Int) ≤ 9223372036854775807) ∧ (((-9223372036854775808) ≤ ((0) : Int) ∧ ((0) : Int) ≤ 9223372036854775807) ∧ R (0) (0) (0) (0) (0) (0) (0) (0) (0) (0) ((x1)) ((14)))))))))))))))) ∧
            (decide (((if ((f6 x1) : Int) > x4 then (f6 x1) else x4) : Int) ≤ (if ((f7 x1) : Int) < x5 then (f7 x1) else x5)) = false → ((decide (((if ((f8 x1) : Int) > x6 then (f8 x1) else x6) : Int) ≤ (if ((f9 x1) : Int) < x7 then (f9 x1) else x7)) = true → (((-9223372036854775808) ≤ ((x1) : Int) ∧ ((x1) : Int) ≤ 9223372036854775807) ∧ (((-9223372036854775808) ≤ ((14) : Int) ∧ ((14) : Int) ≤ 9223372036854775807) ∧ (((-9223372036854775808) ≤ ((0) : Int) ∧ ((0) : Int) ≤ 9223372036854775807) ∧ (((-9223372036854775808) ≤ ((0) : Int) ∧ ((0) : Int) ≤ 9223372036854775807) ∧ (((-9223372036854775808) ≤ ((0) : Int) ∧ ((0) : Int) ≤ 9223372036854775807) ∧ (((-9223372036854775808) ≤ ((0) : Int) ∧ ((0) : Int) ≤ 9223372036854775807) ∧ (((-9223372036854775808) ≤ ((0) : Int) ∧ ((0) : Int) ≤ 9223372036854775807) ∧ (((-9223372036854775808) ≤ ((0) : Int) ∧ ((0) : Int) ≤ 9223372036854775807) ∧ (((-9223372036854775808) ≤ ((0) : Int) ∧ ((0) : Int) ≤ 9223372036854775807) ∧ (((-9223372036854775808) ≤ ((0) : Int) ∧ ((0) : Int) ≤ 9223372036854775807) ∧ (((-9223372036854775808) ≤ ((0) : Int) ∧ ((0) : Int) ≤ 9223372036854775807) ∧ R (0) (0) (0) (0) (0) (0) (0) (0) (0) (0) ((x1)) ((14)))))))))))))) ∧
             (decide (((if ((f8 x1) : Int) > x6 then (f8 x1) else x6) : Int) ≤ (if ((f9 x1) : Int) < x7 then (f9 x1) else x7)) = false → (((-9223372036854775808) ≤ ((x1) : Int) ∧ ((x1) : Int) ≤ 9223372036854775807) ∧ (((-9223372036854775808) ≤ ((14) : Int) ∧ ((14) : Int) ≤ 9223372036854775807) ∧ (((-9223372036854775808) ≤ ((0) : Int) ∧ ((0) : Int) ≤ 9223372036854775807) ∧ (((-9223372036854775808) ≤ ((0) : Int) ∧ ((0) : Int) ≤ 9223372036854775807) ∧ (((-9223372036854775808) ≤ ((0) : Int) ∧ ((0) : Int) ≤ 9223372036854775807) ∧ (((-9223372036854775808) ≤ ((0) : Int) ∧ ((0) : Int) ≤ 9223372036854775807) ∧ (((-9223372036854775808) ≤ ((0) : Int) ∧ ((0) : Int) ≤ 9223372036854775807) ∧ (((-9223372036854775808) ≤ ((0) : Int) ∧ ((0) : Int) ≤ 9223372036854775807) ∧ (((-9223372036854775808) ≤ ((0) : Int) ∧ ((0) : Int) ≤ 9223372036854775807) ∧ (((-9223372036854775808) ≤ ((0) : Int) ∧ ((0) : Int) ≤ 9223372036854775807) ∧ (((-9223372036854775808) ≤ ((0) : Int) ∧ ((0) : Int) ≤ 9223372036854775807) ∧ R (0) (0) (0) (0) (0) (0) (0) (0) (0) (0) ((x1)) ((14)))))))))))))))))) ∧
           (decide (((if ((f4 x1) : Int) > x2 then (f4 x1) else x2) : Int) ≤ (if ((f5 x1) : Int) < x3 then (f5 x1) else x3)) = false → ((decide (((if ((f6 x1) : Int) > x4 then (f6 x1) else x4) : Int) ≤ (if ((f7 x1) : Int) < x5 then (f7 x1) else x5)) = true → ((decide (((if ((f8 x1) : Int) > x6 then (f8 x1) else x6) : Int) ≤ (if ((f9 x1) : Int) < x7 then (f9 x1) else x7)) = true → (((-9223372036854775808) ≤ ((x1) : Int) ∧ ((x1) : Int) ≤ 9223372036854775807) ∧ (((-9223372036854775808) ≤ ((14) : Int) ∧ ((14) : Int) ≤ 9223372036854775807) ∧ (((-9223372036854775808) ≤ ((0) : Int) ∧ ((0) : Int) ≤ 9223372036854775807) ∧ (((-9223372036854775808) ≤ ((0) : Int) ∧ ((0) : Int) ≤ 9223372036854775807) ∧ (((-9223372036854775808) ≤ ((0) : Int) ∧ ((0) : Int) ≤ 9223372036854775807) ∧ (((-9223372036854775808) ≤ ((0) : Int) ∧ ((0) : Int) ≤ 9223372036854775807) ∧ (((-9223372036854775808) ≤ ((0) : Int) ∧ ((0) : Int) ≤ 9223372036854775807) ∧ (((-9223372036854775808) ≤ ((0) : Int) ∧ ((0) : Int) ≤ 9223372036854775807) ∧ (((-9223372036854775808) ≤ ((0) : Int) ∧ ((0) : Int) ≤ 9223372036854775807) ∧ (((-9223372036854775808) ≤ ((0) : Int) ∧ ((0) : Int) ≤ 9223372036854775807) ∧ (((-9223372036854775808) ≤ ((0) : Int) ∧ ((0) : Int) ≤ 9223372036854775807) ∧ R (0) (0) (0) (0) (0) (0) (0) (0) (0) (0) ((x1)) ((14)))))))))))))) ∧
             (decide (((if ((f8 x1) : Int) > x6 then (f8 x1) else x6) : Int) ≤ (if ((f9 x1) : Int) < x7 then (f9 x1) else x7)) = false → (((-9223372036854775808) ≤ ((x1) : Int) ∧ ((x1) : Int) ≤ 9223372036854775807) ∧ (((-9223372036854775808) ≤ ((14) : Int) ∧ ((14) : Int) ≤ 9223372036854775807) ∧ (((-9223372036854775808) ≤ ((0) : Int) ∧ ((0) : Int) ≤ 9223372036854775807) ∧ (((-9223372036854775808) ≤ ((0) : Int) ∧ ((0) : Int) ≤ 9223372036854775807) ∧ (((-9223372036854775808) ≤ ((0) : Int) ∧ ((0) : Int) ≤ 9223372036854775807) ∧ (((-9223372036854775808) ≤ ((0) : Int) ∧ ((0) : Int) ≤ 9223372036854775807) ∧ (((-9223372036854775808) ≤ ((0) : Int) ∧ ((0) : Int) ≤ 9223372036854775807) ∧ (((-9223372036854775808) ≤ ((0) : Int) ∧ ((0) : Int) ≤ 9223372036854775807) ∧ (((-9223372036854775808) ≤ ((0) : Int) ∧ ((0) : Int) ≤ 9223372036854775807) ∧ (((-9223372036854775808) ≤ ((0) : Int) ∧ ((0) : Int) ≤ 9223372036854775807) ∧ (((-9223372036854775808) ≤ ((0) : Int) ∧ ((0) : Int) ≤ 9223372036854775807) ∧ R (0) (0) (0) (0) (0) (0) (0) (0) (0) (0) ((x1)) ((14)))))))))))))))) ∧
            (decide (((if ((f6 x1) : Int) > x4 then (f6 x1) else x4) : Int) ≤ (if ((f7 x1) : Int) < x5 then (f7 x1) else x5)) = false → ((decide (((if ((f8 x1) : Int) > x6 then (f8 x1) else x6) : Int) ≤ (if ((f9 x1) : Int) < x7 then (f9 x1) else x7)) = true → (((-9223372036854775808) ≤ ((x1) : Int) ∧ ((x1) : Int) ≤ 9223372036854775807) ∧ (((-9223372036854775808) ≤ ((14) : Int) ∧ ((14) : Int) ≤ 9223372036854775807) ∧ (((-9223372036854775808) ≤ ((0) : Int) ∧ ((0) : Int) ≤ 9223372036854775807) ∧ (((-9223372036854775808) ≤ ((0) : Int) ∧ ((0) : Int) ≤ 9223372036854775807) ∧ (((-9223372036854775808) ≤ ((0) : Int) ∧ ((0) : Int) ≤ 9223372036854775807) ∧ (((-9223372036854775808) ≤ ((0) : Int) ∧ ((0) : Int) ≤ 9223372036854775807) ∧ (((-9223372036854775808) ≤ ((0) : Int) ∧ ((0) : Int) ≤ 9223372036854775807) ∧ (((-9223372036854775808) ≤ ((0) : Int) ∧ ((0) : Int) ≤ 9223372036854775807) ∧ (((-9223372036854775808) ≤ ((0) : Int) ∧ ((0) : Int) ≤ 9223372036854775807) ∧ (((-9223372036854775808) ≤ ((0) : Int) ∧ ((0) : Int) ≤ 9223372036854775807) ∧ (((-9223372036854775808) ≤ ((0) : Int) ∧ ((0) : Int) ≤ 9223372036854775807) ∧ R (0) (0) (0) (0) (0) (0) (0) (0) (0) (0) ((x1)) ((14)))))))))))))) ∧
             (decide (((if ((f8 x1) : Int) > x6 then (f8 x1) else x6) : Int) ≤ (if ((f9 x1) : Int) < x7 then (f9 x1) else x7)) = false → (((-9223372036854775808) ≤ ((x1) : Int) ∧ ((x1) : Int) ≤ 9223372036854775807) ∧ (((-9223372036854775808) ≤ ((14) : Int) ∧ ((14) : Int) ≤ 9223372036854775807) ∧ (((-9223372036854775808) ≤ ((0) : Int) ∧ ((0) : Int) ≤ 9223372036854775807) ∧ (((-9223372036854775808) ≤ ((0) : Int) ∧ ((0) : Int) ≤ 9223372036854775807) ∧ (((-9223372036854775808) ≤ ((0) : Int) ∧ ((0) : Int) ≤ 9223372036854775807) ∧ (((-9223372036854775808) ≤ ((0) : Int) ∧ ((0) : Int) ≤ 9223372036854775807) ∧ (((-9223372036854775808) ≤ ((0) : Int) ∧ ((0) : Int) ≤ 9223372036854775807) ∧ (((-9223372036854775808) ≤ ((0) : Int) ∧ ((0) : Int) ≤ 9223372036854775807) ∧ (((-9223372036854775808) ≤ ((0) : Int) ∧ ((0) : Int) ≤ 9223372036854775807) ∧ (((-9223372036854775808) ≤ ((0) : Int) ∧ ((0) : Int) ≤ 9223372036854775807) ∧ (((-9223372036854775808) ≤ ((0) : Int) ∧ ((0) : Int) ≤ 9223372036854775807) ∧ R (0) (0) (0) (0) (0) (0) (0) (0) (0) (0) ((x1)) ((14)))))))))))))))))))) ∧
          ((((f3 0) : Int) == (f3 x1)) = false → (((-9223372036854775808) ≤ ((x1) : Int) ∧ ((x1) : Int) ≤ 9223372036854775807) ∧ (((-9223372036854775808) ≤ ((25) : Int) ∧ ((25) : Int) ≤ 9223372036854775807) ∧ (((-9223372036854775808) ≤ ((0) : Int) ∧ ((0) : Int) ≤ 9223372036854775807) ∧ (((-9223372036854775808) ≤ ((0) : Int) ∧ ((0) : Int) ≤ 9223372036854775807) ∧ (((-9223372036854775808) ≤ ((0) : Int) ∧ ((0) : Int) ≤ 9223372036854775807) ∧ (((-9223372036854775808) ≤ ((0) : Int) ∧ ((0) : Int) ≤ 9223372036854775807) ∧ (((-9223372036854775808) ≤ ((0) : Int) ∧ ((0) : Int) ≤ 9223372036854775807) ∧ (((-9223372036854775808) ≤ ((0) : Int) ∧ ((0) : Int) ≤ 9223372036854775807) ∧ (((-9223372036854775808) ≤ ((0) : Int) ∧ ((0) : Int) ≤ 9223372036854775807) ∧ (((-9223372036854775808) ≤ ((0) : Int) ∧ ((0) : Int) ≤ 9223372036854775807) ∧ (((-9223372036854775808) ≤ ((0) : Int) ∧ ((0) : Int) ≤ 9223372036854775807) ∧ R (0) (0) (0) (0) (0) (0) (0) (0) (0) (0) ((x1)) ((25)))))))))))))))) ∧
         ((((f2 0) : Int) == (f2 x1)) = false → (((-9223372036854775808) ≤ ((x1) : Int) ∧ ((x1) : Int) ≤ 9223372036854775807) ∧ (((-9223372036854775808) ≤ ((25) : Int) ∧ ((25) : Int) ≤ 9223372036854775807) ∧ (((-9223372036854775808) ≤ ((0) : Int) ∧ ((0) : Int) ≤ 9223372036854775807) ∧ (((-9223372036854775808) ≤ ((0) : Int) ∧ ((0) : Int) ≤ 9223372036854775807) ∧ (((-9223372036854775808) ≤ ((0) : Int) ∧ ((0) : Int) ≤ 9223372036854775807) ∧ (((-9223372036854775808) ≤ ((0) : Int) ∧ ((0) : Int) ≤ 9223372036854775807) ∧ (((-9223372036854775808) ≤ ((0) : Int) ∧ ((0) : Int) ≤ 9223372036854775807) ∧ (((-9223372036854775808) ≤ ((0) : Int) ∧ ((0) : Int) ≤ 9223372036854775807) ∧ (((-9223372036854775808) ≤ ((0) : Int) ∧ ((0) : Int) ≤ 9223372036854775807) ∧ (((-9223372036854775808) ≤ ((0) : Int) ∧ ((0) : Int) ≤ 9223372036854775807) ∧ (((-9223372036854775808) ≤ ((0) : Int) ∧ ((0) : Int) ≤ 9223372036854775807) ∧ R (0) (0) (0) (0) (0) (0) (0) (0) (0) (0) ((x1)) ((25)))))))))))))))) ∧
        ((((f1 0) : Int) == (f1 x1)) = false → (((-9223372036854775808) ≤ ((x1) : Int) ∧ ((x1) : Int) ≤ 9223372036854775807) ∧ (((-9223372036854775808) ≤ ((25) : Int) ∧ ((25) : Int) ≤ 9223372036854775807) ∧ (((-9223372036854775808) ≤ ((0) : Int) ∧ ((0) : Int) ≤ 9223372036854775807) ∧ (((-9223372036854775808) ≤ ((0) : Int) ∧ ((0) : Int) ≤ 9223372036854775807) ∧ (((-9223372036854775808) ≤ ((0) : Int) ∧ ((0) : Int) ≤ 9223372036854775807) ∧ (((-9223372036854775808) ≤ ((0) : Int) ∧ ((0) : Int) ≤ 9223372036854775807) ∧ (((-9223372036854775808) ≤ ((0) : Int) ∧ ((0) : Int) ≤ 9223372036854775807) ∧ (((-9223372036854775808) ≤ ((0) : Int) ∧ ((0) : Int) ≤ 9223372036854775807) ∧ (((-9223372036854775808) ≤ ((0) : Int) ∧ ((0) : Int) ≤ 9223372036854775807) ∧ (((-9223372036854775808) ≤ ((0) : Int) ∧ ((0) : Int) ≤ 9223372036854775807) ∧ (((-9223372036854775808) ≤ ((0) : Int) ∧ ((0) : Int) ≤ 9223372036854775807) ∧ R (0) (0) (0) (0) (0) (0) (0) (0) (0) (0) ((x1)) ((25)))))))))))))))) ∧
       (((v8 : Int) == 0) = false → (((-9223372036854775808) ≤ ((x1) : Int) ∧ ((x1) : Int) ≤ 9223372036854775807) ∧ (((-9223372036854775808) ≤ ((v8) : Int) ∧ ((v8) : Int) ≤ 9223372036854775807) ∧ (((-9223372036854775808) ≤ (((f1 0)) : Int) ∧ (((f1 0)) : Int) ≤ 9223372036854775807) ∧ (((-9223372036854775808) ≤ (((f2 0)) : Int) ∧ (((f2 0)) : Int) ≤ 9223372036854775807) ∧ (((-9223372036854775808) ≤ (((f3 0)) : Int) ∧ (((f3 0)) : Int) ≤ 9223372036854775807) ∧ (((-9223372036854775808) ≤ ((x2) : Int) ∧ ((x2) : Int) ≤ 9223372036854775807) ∧ (((-9223372036854775808) ≤ ((x3) : Int) ∧ ((x3) : Int) ≤ 9223372036854775807) ∧ (((-9223372036854775808) ≤ ((x4) : Int) ∧ ((x4) : Int) ≤ 9223372036854775807) ∧ (((-9223372036854775808) ≤ ((x5) : Int) ∧ ((x5) : Int) ≤ 9223372036854775807) ∧ (((-9223372036854775808) ≤ ((x6) : Int) ∧ ((x6) : Int) ≤ 9223372036854775807) ∧ (((-9223372036854775808) ≤ ((x7) : Int) ∧ ((x7) : Int) ≤ 9223372036854775807) ∧ R (0) (0) (0) (0) (0) (0) (0) (0) (0) (0) ((x1)) ((v8)))))))))))))))))))))))))))) ∧
    (decide ((x0 : Int) ≤ 20) = false → R (0) (0) (0) (0) (0) (0) (0) (0) (0) (0) (0) (8)))))) :
    ∃ v0 : Int, ∃ v1 : Int, ∃ v2 : Int, ∃ v3 : Int, ∃ v4 : Int, ∃ v5 : Int, ∃ v6 : Int, ∃ v7 : Int, ∃ v8 : Int, ∃ v9 : Int, ∃ v10 : Int, ∃ v11 : Int, R v0 v1 v2 v3 v4 v5 v6 v7 v8 v9 v10 v11 ∧ Spec Try.prog meter_Averaged_s ⟨[x0], [], [f0, f1, f2, f3, f4, f5, f6, f7, f8, f9]⟩ [v0, v1, v2, v3, v4, v5, v6, v7, v8, v9, v10, v11] [] [] :=
  Eq.mp (by kernel_rfl) (exV_of (K := fun d => app3 meter_Averaged_s.out R d ∧ Spec Try.prog meter_Averaged_s ⟨[x0], [], [f0, f1, f2, f3, f4, f5, f6, f7, f8, f9]⟩ d.1 d.2.1 d.2.2) (tree_at mixed names S1_ok (S := S1 Try.prog) (lf := 100000) (d := 60) meter_Averaged_s mav_t { ivs := [(0, 0, 22)], aivs := [(1, (-9223372036854775808), 9223372036854775807), (2, (-9223372036854775808), 9223372036854775807), (3, (-9223372036854775808), 9223372036854775807), (4, (-9223372036854775808), 9223372036854775807), (5, (-9223372036854775808), 9223372036854775807), (6, (-9223372036854775808), 9223372036854775807), (7, (-9223372036854775808), 9223372036854775807), (8, (-9223372036854775808), 9223372036854775807), (9, (-9223372036854775808), 9223372036854775807)] } ⟨[x0], [], [f0, f1, f2, f3, f4, f5, f6, f7, f8, f9]⟩ rfl (by kernel_rfl) (by kernel_rfl) (by kernel_rfl) ⟨(fc r0 fz), fz, (fc s1 (fc s2 (fc s3 (fc s4 (fc s5 (fc s6 (fc s7 (fc s8 (fc s9 fz))))))))), fz⟩ (R := fun d => app3 meter_Averaged_s.out R d) (Eq.mp (by kernel_rfl) H)))

def mrv_t : Tr :=
  (.ite (.icmp .eql (.var 0) (.lit 0))
  (.ret ⟨[(.lit 0), (.lit 0), (.lit 0), (.lit 0), (.lit 0), (.lit 0), (.lit 0), (.lit 0), (.lit 0), (.lit 0), (.lit 0), (.lit 12)], [], []⟩ [])
  (.ite (.icmp .leq (.var 0) (.lit 20))
   (.loop ⟨8, [0, 1, 0, 1, 1, 1, 1], [(.asl 0 (.var 0)), (.tuple []), (.ptr (some ⟨1, 0, none⟩)), (.int .i64 (.lit 0)), (.int .i64 (.lit 0)), (.ptr (some ⟨2, 0, none⟩)), (.int .i64 (.lit 0)), (.tuple []), (.tuple []), (.tuple []), (.tuple []), (.tuple []), (.tuple []), (.tuple []), (.asl 0 (.var 0)), (.int .i64 (.var 0)), (.bool (.icmp .eql (.var 0) (.lit 0))), (.tuple []), (.asl 0 (.var 0)), (.int .i64 (.var 0)), (.bool (.icmp .gtr (.var 0) (.lit 20))), (.tuple []), (.asl 0 (.var 0)), (.eptr 0 (.lit 0) 10 0), (.agg [(.strn (.sel (.avar 0) (.lit 0))), (.int .i64 (.sel (.avar 1) (.lit 0))), (.int .i64 (.sel (.avar 2) (.lit 0))), (.int .i64 (.sel (.avar 3) (.lit 0))), (.int .i64 (.sel (.avar 4) (.lit 0))), (.int .i64 (.sel (.avar 5) (.lit 0))), (.int .i64 (.sel (.avar 6) (.lit 0))), (.int .i64 (.sel (.avar 7) (.lit 0))), (.int .i64 (.sel (.avar 8) (.lit 0))), (.int .i64 (.sel (.avar 9) (.lit 0)))]), (.tuple []), (.tuple []), (.tuple []), (.tuple []), (.tuple []), (.tuple []), (.tuple []), (.tuple []), (.tuple []), (.tuple []), (.tuple []), (.tuple []), (.tuple []), (.tuple []), (.tuple []), (.tuple []), (.tuple []), (.tuple []), (.tuple []), (.tuple []), (.tuple []), (.tuple []), (.tuple []), (.tuple []), (.tuple []), (.tuple []), (.tuple []), (.tuple []), (.tuple []), (.tuple []), (.tuple []), (.tuple []), (.tuple []), (.tuple []), (.tuple []), (.tuple []), (.tuple []), (.tuple []), (.tuple []), (.tuple []), (.tuple []), (.tuple []), (.tuple []), (.tuple []), (.tuple []), (.tuple []), (.tuple []), (.tuple []), (.tuple []), (.tuple []), (.tuple []), (.tuple []), (.tuple []), (.tuple []), (.tuple []), (.tuple []), (.tuple []), (.tuple []), (.tuple []), (.tuple []), (.tuple []), (.tuple []), (.tuple []), (.tuple []), (.tuple []), (.tuple []), (.tuple []), (.tuple []), (.tuple []), (.tuple []), (.tuple []), (.tuple []), (.tuple []), (.tuple []), (.tuple []), (.tuple []), (.tuple []), (.tuple []), (.tuple []), (.tuple []), (.tuple []), (.tuple []), (.tuple []), (.tuple []), (.tuple []), (.tuple []), (.tuple []), (.tuple []), (.tuple []), (.tuple []), (.tuple []), (.tuple [])], [(some ⟨[], 29, true, false, (some ⟨(.var 0), [.str, (.int .i64), (.int .i64), (.int .i64), (.int .i64), (.int .i64), (.int .i64), (.int .i64), (.int .i64), (.int .i64)], [(.avar 0), (.avar 1), (.avar 2), (.avar 3), (.avar 4), (.avar 5), (.avar 6), (.avar 7), (.avar 8), (.avar 9)]⟩)⟩), (some ⟨[(.str ⟨#[]⟩), (.int .i64 (.lit 0)), (.int .i64 (.lit 0)), (.int .i64 (.lit 0)), (.int .i64 (.lit 0)), (.int .i64 (.lit 0)), (.int .i64 (.lit 0)), (.int .i64 (.lit 0)), (.int .i64 (.lit 0)), (.int .i64 (.lit 0))], 29, false, false, none⟩), (some ⟨[(.strn (.sel (.avar 0) (.lit 0))), (.int .i64 (.sel (.avar 1) (.lit 0))), (.int .i64 (.sel (.avar 2) (.lit 0))), (.int .i64 (.sel (.avar 3) (.lit 0))), (.int .i64 (.sel (.avar 4) (.lit 0))), (.int .i64 (.sel (.avar 5) (.lit 0))), (.int .i64 (.sel (.avar 6) (.lit 0))), (.int .i64 (.sel (.avar 7) (.lit 0))), (.int .i64 (.sel (.avar 8) (.lit 0))), (.int .i64 (.sel (.avar 9) (.lit 0)))], 29, false, false, none⟩)], [], [(.asl 0 (.var 0)), (.tuple []), (.ptr (some ⟨1, 0, none⟩)), (.int .i64 (.lit 0)), (.int .i64 (.lit 0)), (.ptr (some ⟨2, 0, none⟩)), (.int .i64 (.var 1)), (.any 7), (.any 8), (.any 9), (.any 10), (.any 11), (.any 12), (.any 13), (.asl 0 (.var 0)), (.int .i64 (.var 0)), (.bool (.icmp .eql (.var 0) (.lit 0))), (.tuple []), (.asl 0 (.var 0)), (.int .i64 (.var 0)), (.bool (.icmp .gtr (.var 0) (.lit 20))), (.tuple []), (.asl 0 (.var 0)), (.eptr 0 (.lit 0) 10 0), (.agg [(.strn (.sel (.avar 0) (.lit 0))), (.int .i64 (.sel (.avar 1) (.lit 0))), (.int .i64 (.sel (.avar 2) (.lit 0))), (.int .i64 (.sel (.avar 3) (.lit 0))), (.int .i64 (.sel (.avar 4) (.lit 0))), (.int .i64 (.sel (.avar 5) (.lit 0))), (.int .i64 (.sel (.avar 6) (.lit 0))), (.int .i64 (.sel (.avar 7) (.lit 0))), (.int .i64 (.sel (.avar 8) (.lit 0))), (.int .i64 (.sel (.avar 9) (.lit 0)))]), (.any 25), (.any 26), (.any 27), (.any 28), (.any 29), (.any 30), (.any 31), (.any 32), (.any 33), (.any 34), (.any 35), (.any 36), (.any 37), (.tuple []), (.tuple []), (.tuple []), (.any 41), (.any 42), (.any 43), (.any 44), (.any 45), (.any 46), (.any 47), (.any 48), (.any 49), (.any 50), (.any 51), (.any 52), (.any 53), (.any 54), (.any 55), (.any 56), (.any 57), (.any 58), (.any 59), (.any 60), (.any 61), (.any 62), (.tuple []), (.tuple []), (.any 65), (.any 66), (.any 67), (.any 68), (.any 69), (.any 70), (.any 71), (.any 72), (.any 73), (.any 74), (.any 75), (.any 76), (.any 77), (.any 78), (.any 79), (.any 80), (.any 81), (.any 82), (.any 83), (.any 84), (.any 85), (.any 86), (.any 87), (.any 88), (.any 89), (.any 90), (.any 91), (.any 92), (.any 93), (.any 94), (.any 95), (.any 96), (.any 97), (.any 98), (.any 99), (.any 100), (.any 101), (.any 102), (.any 103), (.any 104), (.any 105), (.any 106), (.any 107), (.tuple []), (.tuple []), (.any 110), (.any 111), (.any 112), (.any 113), (.any 114), (.any 115), (.tuple [])], [(some ⟨[], 29, true, false, (some ⟨(.var 0), [.str, (.int .i64), (.int .i64), (.int .i64), (.int .i64), (.int .i64), (.int .i64), (.int .i64), (.int .i64), (.int .i64)], [(.avar 0), (.avar 1), (.avar 2), (.avar 3), (.avar 4), (.avar 5), (.avar 6), (.avar 7), (.avar 8), (.avar 9)]⟩)⟩), (some ⟨[(.str ⟨#[]⟩), (.int .i64 (.lit 0)), (.int .i64 (.lit 0)), (.int .i64 (.lit 0)), (.int .i64 (.lit 0)), (.int .i64 (.lit 0)), (.int .i64 (.lit 0)), (.int .i64 (.lit 0)), (.int .i64 (.lit 0)), (.int .i64 (.lit 0))], 29, false, false, none⟩), (some ⟨[(.strn (.sel (.avar 0) (.lit 0))), (.int .i64 (.sel (.avar 1) (.lit 0))), (.int .i64 (.sel (.avar 2) (.lit 0))), (.int .i64 (.sel (.avar 3) (.lit 0))), (.int .i64 (.var 2)), (.int .i64 (.var 3)), (.int .i64 (.var 4)), (.int .i64 (.var 5)), (.int .i64 (.var 6)), (.int .i64 (.var 7))], 29, false, false, none⟩)], [1, 2], ⟨7, 0, 0⟩, ⟨[(.lit 0), (.sel (.avar 4) (.lit 0)), (.sel (.avar 5) (.lit 0)), (.sel (.avar 6) (.lit 0)), (.sel (.avar 7) (.lit 0)), (.sel (.avar 8) (.lit 0)), (.sel (.avar 9) (.lit 0))], [], []⟩, []⟩
    (.rng 1 0 20 (.rng 2 (-9223372036854775808) 9223372036854775807 (.rng 3 (-9223372036854775808) 9223372036854775807 (.rng 4 (-9223372036854775808) 9223372036854775807 (.rng 5 (-9223372036854775808) 9223372036854775807 (.rng 6 (-9223372036854775808) 9223372036854775807 (.rng 7 (-9223372036854775808) 9223372036854775807 (.ite (.icmp .leq (.var 0) (.var 1))
     (.out 1 ⟨[(.var 2), (.var 3), (.var 4), (.var 5), (.var 6), (.var 7)], [], []⟩ [])
     (.call etalonref06_CheckReading_s ⟨[(.sel (.avar 0) (.var 1)), (.sel (.avar 1) (.var 1)), (.sel (.avar 2) (.var 1)), (.sel (.avar 3) (.var 1)), (.sel (.avar 4) (.var 1)), (.sel (.avar 5) (.var 1)), (.sel (.avar 6) (.var 1)), (.sel (.avar 7) (.var 1)), (.sel (.avar 8) (.var 1)), (.sel (.avar 9) (.var 1))], [], []⟩ ⟨[(.sel (.avar 0) (.var 1)), (.sel (.avar 1) (.var 1)), (.sel (.avar 2) (.var 1)), (.sel (.avar 3) (.var 1)), (.sel (.avar 4) (.var 1)), (.sel (.avar 5) (.var 1)), (.sel (.avar 6) (.var 1)), (.sel (.avar 7) (.var 1)), (.sel (.avar 8) (.var 1)), (.sel (.avar 9) (.var 1)), (.var 8)], [], []⟩ ⟨25, [(.agg [(.strn (.sel (.avar 0) (.var 1))), (.int .i64 (.sel (.avar 1) (.var 1))), (.int .i64 (.sel (.avar 2) (.var 1))), (.int .i64 (.sel (.avar 3) (.var 1))), (.int .i64 (.sel (.avar 4) (.var 1))), (.int .i64 (.sel (.avar 5) (.var 1))), (.int .i64 (.sel (.avar 6) (.var 1))), (.int .i64 (.sel (.avar 7) (.var 1))), (.int .i64 (.sel (.avar 8) (.var 1))), (.int .i64 (.sel (.avar 9) (.var 1)))])], [], [none, none, none], (.int .i64 (.var 8)), []⟩
      (.ite (.icmp .eql (.var 8) (.lit 0))
      (.ite (.icmp .eql (.sel (.avar 1) (.var 1)) (.sel (.avar 1) (.lit 0)))
       (.ite (.icmp .eql (.sel (.avar 2) (.var 1)) (.sel (.avar 2) (.lit 0)))
        (.ite (.icmp .eql (.sel (.avar 3) (.var 1)) (.sel (.avar 3) (.lit 0)))
         (.call etalonref06_common_s ⟨[(.var 2), (.var 3), (.sel (.avar 4) (.var 1)), (.sel (.avar 5) (.var 1))], [], []⟩ ⟨[(.var 2), (.var 3), (.sel (.avar 4) (.var 1)), (.sel (.avar 5) (.var 1)), (.var 9), (.var 10)], [(.var 0)], []⟩ ⟨26, [(.agg [(.int .i64 (.var 2)), (.int .i64 (.var 3))]), (.agg [(.int .i64 (.sel (.avar 4) (.var 1))), (.int .i64 (.sel (.avar 5) (.var 1)))])], [], [none, none, none], (.tuple [(.agg [(.int .i64 (.var 9)), (.int .i64 (.var 10))]), (.bool (.var 0))]), []⟩
          (.call etalonref06_common_s ⟨[(.var 4), (.var 5), (.sel (.avar 6) (.var 1)), (.sel (.avar 7) (.var 1))], [], []⟩ ⟨[(.var 4), (.var 5), (.sel (.avar 6) (.var 1)), (.sel (.avar 7) (.var 1)), (.var 11), (.var 12)], [(.var 1)], []⟩ ⟨26, [(.agg [(.int .i64 (.var 4)), (.int .i64 (.var 5))]), (.agg [(.int .i64 (.sel (.avar 6) (.var 1))), (.int .i64 (.sel (.avar 7) (.var 1)))])], [], [none, none, none, none], (.tuple [(.agg [(.int .i64 (.var 11)), (.int .i64 (.var 12))]), (.bool (.var 1))]), []⟩
          (.call etalonref06_common_s ⟨[(.var 6), (.var 7), (.sel (.avar 8) (.var 1)), (.sel (.avar 9) (.var 1))], [], []⟩ ⟨[(.var 6), (.var 7), (.sel (.avar 8) (.var 1)), (.sel (.avar 9) (.var 1)), (.var 13), (.var 14)], [(.var 2)], []⟩ ⟨26, [(.agg [(.int .i64 (.var 6)), (.int .i64 (.var 7))]), (.agg [(.int .i64 (.sel (.avar 8) (.var 1))), (.int .i64 (.sel (.avar 9) (.var 1)))])], [], [none, none, none, none, none], (.tuple [(.agg [(.int .i64 (.var 13)), (.int .i64 (.var 14))]), (.bool (.var 2))]), []⟩
          (.ite (.var 0)
          (.ite (.var 1)
           (.ite (.var 2)
            (.next ⟨[(.bin .addI (.var 1) (.lit 1)), (.var 9), (.var 10), (.var 11), (.var 12), (.var 13), (.var 14)], [], []⟩ [])
            (.out 0 ⟨[(.var 1), (.lit 14), (.var 2), (.var 3), (.var 4), (.var 5), (.var 6), (.var 7)], [], []⟩ []))
           (.out 0 ⟨[(.var 1), (.lit 14), (.var 2), (.var 3), (.var 4), (.var 5), (.var 6), (.var 7)], [], []⟩ []))
          (.out 0 ⟨[(.var 1), (.lit 14), (.var 2), (.var 3), (.var 4), (.var 5), (.var 6), (.var 7)], [], []⟩ [])))))
         (.out 0 ⟨[(.var 1), (.lit 25), (.var 2), (.var 3), (.var 4), (.var 5), (.var 6), (.var 7)], [], []⟩ []))
        (.out 0 ⟨[(.var 1), (.lit 25), (.var 2), (.var 3), (.var 4), (.var 5), (.var 6), (.var 7)], [], []⟩ []))
       (.out 0 ⟨[(.var 1), (.lit 25), (.var 2), (.var 3), (.var 4), (.var 5), (.var 6), (.var 7)], [], []⟩ []))
      (.out 0 ⟨[(.var 1), (.var 8), (.var 2), (.var 3), (.var 4), (.var 5), (.var 6), (.var 7)], [], []⟩ [])))))))))))
    (.ex (.ret, [(.asl 0 (.var 0)), (.tuple []), (.ptr (some ⟨1, 0, none⟩)), (.int .i64 (.var 1)), (.int .i64 (.var 2)), (.ptr (some ⟨2, 0, none⟩)), (.any 6), (.any 7), (.any 8), (.any 9), (.any 10), (.any 11), (.any 12), (.any 13), (.asl 0 (.var 0)), (.int .i64 (.var 0)), (.bool (.icmp .eql (.var 0) (.lit 0))), (.tuple []), (.asl 0 (.var 0)), (.int .i64 (.var 0)), (.bool (.icmp .gtr (.var 0) (.lit 20))), (.tuple []), (.asl 0 (.var 0)), (.eptr 0 (.lit 0) 10 0), (.agg [(.strn (.sel (.avar 0) (.lit 0))), (.int .i64 (.sel (.avar 1) (.lit 0))), (.int .i64 (.sel (.avar 2) (.lit 0))), (.int .i64 (.sel (.avar 3) (.lit 0))), (.int .i64 (.sel (.avar 4) (.lit 0))), (.int .i64 (.sel (.avar 5) (.lit 0))), (.int .i64 (.sel (.avar 6) (.lit 0))), (.int .i64 (.sel (.avar 7) (.lit 0))), (.int .i64 (.sel (.avar 8) (.lit 0))), (.int .i64 (.sel (.avar 9) (.lit 0)))]), (.any 25), (.any 26), (.any 27), (.any 28), (.any 29), (.any 30), (.any 31), (.any 32), (.any 33), (.any 34), (.any 35), (.any 36), (.any 37), (.any 38), (.any 39), (.any 40), (.any 41), (.any 42), (.any 43), (.any 44), (.any 45), (.any 46), (.any 47), (.any 48), (.any 49), (.any 50), (.any 51), (.any 52), (.any 53), (.any 54), (.any 55), (.any 56), (.any 57), (.any 58), (.any 59), (.any 60), (.any 61), (.any 62), (.any 63), (.any 64), (.any 65), (.any 66), (.any 67), (.any 68), (.any 69), (.any 70), (.any 71), (.any 72), (.any 73), (.any 74), (.any 75), (.any 76), (.any 77), (.any 78), (.any 79), (.any 80), (.any 81), (.any 82), (.any 83), (.any 84), (.any 85), (.any 86), (.any 87), (.any 88), (.any 89), (.any 90), (.any 91), (.any 92), (.any 93), (.any 94), (.any 95), (.any 96), (.any 97), (.any 98), (.any 99), (.any 100), (.any 101), (.any 102), (.any 103), (.any 104), (.any 105), (.any 106), (.any 107), (.any 108), (.any 109), (.any 110), (.any 111), (.any 112), (.any 113), (.any 114), (.any 115), (.tuple [])], [(some ⟨[], 29, true, false, (some ⟨(.var 0), [.str, (.int .i64), (.int .i64), (.int .i64), (.int .i64), (.int .i64), (.int .i64), (.int .i64), (.int .i64), (.int .i64)], [(.avar 0), (.avar 1), (.avar 2), (.avar 3), (.avar 4), (.avar 5), (.avar 6), (.avar 7), (.avar 8), (.avar 9)]⟩)⟩), (some ⟨[(.str ⟨#[]⟩), (.int .i64 (.lit 0)), (.int .i64 (.lit 0)), (.int .i64 (.lit 0)), (.int .i64 (.lit 0)), (.int .i64 (.lit 0)), (.int .i64 (.lit 0)), (.int .i64 (.lit 0)), (.int .i64 (.lit 0)), (.int .i64 (.lit 0))], 29, false, false, none⟩), (some ⟨[(.strn (.sel (.avar 0) (.lit 0))), (.int .i64 (.sel (.avar 1) (.lit 0))), (.int .i64 (.sel (.avar 2) (.lit 0))), (.int .i64 (.sel (.avar 3) (.lit 0))), (.int .i64 (.var 3)), (.int .i64 (.var 4)), (.int .i64 (.var 5)), (.int .i64 (.var 6)), (.int .i64 (.var 7)), (.int .i64 (.var 8))], 29, false, false, none⟩)], [1, 2]) ⟨8, 0, 0⟩
    (.rng 1 (-9223372036854775808) 9223372036854775807 (.rng 2 (-9223372036854775808) 9223372036854775807 (.rng 3 (-9223372036854775808) 9223372036854775807 (.rng 4 (-9223372036854775808) 9223372036854775807 (.rng 5 (-9223372036854775808) 9223372036854775807 (.rng 6 (-9223372036854775808) 9223372036854775807 (.rng 7 (-9223372036854775808) 9223372036854775807 (.rng 8 (-9223372036854775808) 9223372036854775807 (.ret ⟨[(.lit 0), (.lit 0), (.lit 0), (.lit 0), (.lit 0), (.lit 0), (.lit 0), (.lit 0), (.lit 0), (.lit 0), (.var 1), (.var 2)], [], []⟩ [])))))))))
    (.ex ((.exit 0), [(.asl 0 (.var 0)), (.tuple []), (.ptr (some ⟨1, 0, none⟩)), (.int .i64 (.lit 0)), (.int .i64 (.lit 0)), (.ptr (some ⟨2, 0, none⟩)), (.any 6), (.any 7), (.any 8), (.any 9), (.any 10), (.any 11), (.any 12), (.any 13), (.asl 0 (.var 0)), (.int .i64 (.var 0)), (.bool (.icmp .eql (.var 0) (.lit 0))), (.tuple []), (.asl 0 (.var 0)), (.int .i64 (.var 0)), (.bool (.icmp .gtr (.var 0) (.lit 20))), (.tuple []), (.asl 0 (.var 0)), (.eptr 0 (.lit 0) 10 0), (.agg [(.strn (.sel (.avar 0) (.lit 0))), (.int .i64 (.sel (.avar 1) (.lit 0))), (.int .i64 (.sel (.avar 2) (.lit 0))), (.int .i64 (.sel (.avar 3) (.lit 0))), (.int .i64 (.sel (.avar 4) (.lit 0))), (.int .i64 (.sel (.avar 5) (.lit 0))), (.int .i64 (.sel (.avar 6) (.lit 0))), (.int .i64 (.sel (.avar 7) (.lit 0))), (.int .i64 (.sel (.avar 8) (.lit 0))), (.int .i64 (.sel (.avar 9) (.lit 0)))]), (.any 25), (.any 26), (.any 27), (.any 28), (.any 29), (.any 30), (.any 31), (.any 32), (.any 33), (.any 34), (.any 35), (.any 36), (.any 37), (.tuple []), (.tuple []), (.tuple []), (.any 41), (.any 42), (.any 43), (.any 44), (.any 45), (.any 46), (.any 47), (.any 48), (.any 49), (.any 50), (.any 51), (.any 52), (.any 53), (.any 54), (.any 55), (.any 56), (.any 57), (.any 58), (.any 59), (.any 60), (.any 61), (.any 62), (.tuple []), (.tuple []), (.any 65), (.any 66), (.any 67), (.any 68), (.any 69), (.any 70), (.any 71), (.any 72), (.any 73), (.any 74), (.any 75), (.any 76), (.any 77), (.any 78), (.any 79), (.any 80), (.any 81), (.any 82), (.any 83), (.any 84), (.any 85), (.any 86), (.any 87), (.any 88), (.any 89), (.any 90), (.any 91), (.any 92), (.any 93), (.any 94), (.any 95), (.any 96), (.any 97), (.any 98), (.any 99), (.any 100), (.any 101), (.any 102), (.any 103), (.any 104), (.any 105), (.any 106), (.any 107), (.tuple []), (.tuple []), (.any 110), (.any 111), (.any 112), (.any 113), (.any 114), (.any 115), (.tuple [])], [(some ⟨[], 29, true, false, (some ⟨(.var 0), [.str, (.int .i64), (.int .i64), (.int .i64), (.int .i64), (.int .i64), (.int .i64), (.int .i64), (.int .i64), (.int .i64)], [(.avar 0), (.avar 1), (.avar 2), (.avar 3), (.avar 4), (.avar 5), (.avar 6), (.avar 7), (.avar 8), (.avar 9)]⟩)⟩), (some ⟨[(.str ⟨#[]⟩), (.int .i64 (.lit 0)), (.int .i64 (.lit 0)), (.int .i64 (.lit 0)), (.int .i64 (.lit 0)), (.int .i64 (.lit 0)), (.int .i64 (.lit 0)), (.int .i64 (.lit 0)), (.int .i64 (.lit 0)), (.int .i64 (.lit 0))], 29, false, false, none⟩), (some ⟨[(.strn (.sel (.avar 0) (.lit 0))), (.int .i64 (.sel (.avar 1) (.lit 0))), (.int .i64 (.sel (.avar 2) (.lit 0))), (.int .i64 (.sel (.avar 3) (.lit 0))), (.int .i64 (.var 1)), (.int .i64 (.var 2)), (.int .i64 (.var 3)), (.int .i64 (.var 4)), (.int .i64 (.var 5)), (.int .i64 (.var 6))], 29, false, false, none⟩)], [1, 2]) ⟨6, 0, 0⟩
    (.rng 1 (-9223372036854775808) 9223372036854775807 (.rng 2 (-9223372036854775808) 9223372036854775807 (.rng 3 (-9223372036854775808) 9223372036854775807 (.rng 4 (-9223372036854775808) 9223372036854775807 (.rng 5 (-9223372036854775808) 9223372036854775807 (.rng 6 (-9223372036854775808) 9223372036854775807 (.ret ⟨[(.sel (.avar 0) (.lit 0)), (.sel (.avar 1) (.lit 0)), (.sel (.avar 2) (.lit 0)), (.sel (.avar 3) (.lit 0)), (.var 1), (.var 2), (.var 3), (.var 4), (.var 5), (.var 6), (.lit 0), (.lit 0)], [], []⟩ [])))))))
    .nil)))
   (.ret ⟨[(.lit 0), (.lit 0), (.lit 0), (.lit 0), (.lit 0), (.lit 0), (.lit 0), (.lit 0), (.lit 0), (.lit 0), (.lit 0), (.lit 8)], [], []⟩ [])))
theorem mrv {x0 : Int} {f0 f1 f2 f3 f4 f5 f6 f7 f8 f9 : Int → Int} (r0 : 0 ≤ x0 ∧ x0 ≤ 22) (s1 : ∀ q, (-9223372036854775808) ≤ f1 q ∧ f1 q ≤ 9223372036854775807) (s2 : ∀ q, (-9223372036854775808) ≤ f2 q ∧ f2 q ≤ 9223372036854775807) (s3 : ∀ q, (-9223372036854775808) ≤ f3 q ∧ f3 q ≤ 9223372036854775807) (s4 : ∀ q, (-9223372036854775808) ≤ f4 q ∧ f4 q ≤ 9223372036854775807) (s5 : ∀ q, (-9223372036854775808) ≤ f5 q ∧ f5 q ≤ 9223372036854775807) (s6 : ∀ q, (-9223372036854775808) ≤ f6 q ∧ f6 q ≤ 9223372036854775807) (s7 : ∀ q, (-9223372036854775808) ≤ f7 q ∧ f7 q ≤ 9223372036854775807) (s8 : ∀ q, (-9223372036854775808) ≤ f8 q ∧ f8 q ≤ 9223372036854775807) (s9 : ∀ q, (-9223372036854775808) ≤ f9 q ∧ f9 q ≤ 9223372036854775807) {R : Int → Int → Int → Int → Int → Int → Int → Int → Int → Int → Int → Int → Prop}
  (H : ((((x0 : Int) == 0) = true → R (0) (0) (0) (0) (0) (0) (0) (0) (0) (0) (0) (12)) ∧
   (((x0 : Int) == 0) = false → ((decide ((x0 : Int) ≤ 20) = true → (∃ (I1 : Int → Int → Int → Int → Int → Int → Int → Prop) (rk1 : Int → Int → Int → Int → Int → Int → Int → Nat), I1 (0) ((f4 0)) ((f5 0)) ((f6 0)) ((f7 0)) ((f8 0)) ((f9 0)) ∧
     (∀ x1 : Int, ∀ x2 : Int, ∀ x3 : Int, ∀ x4 : Int, ∀ x5 : Int, ∀ x6 : Int, ∀ x7 : Int, I1 x1 x2 x3 x4 x5 x6 x7 → ((0 ≤ (x1 : Int) ∧ (x1 : Int) ≤ 20) ∧ (((-9223372036854775808) ≤ (x2 : Int) ∧ (x2 : Int) ≤ 9223372036854775807) ∧ (((-9223372036854775808) ≤ (x3 : Int) ∧ (x3 : Int) ≤ 9223372036854775807) ∧ (((-9223372036854775808) ≤ (x4 : Int) ∧ (x4 : Int) ≤ 9223372036854775807) ∧ (((-9223372036854775808) ≤ (x5 : Int) ∧ (x5 : Int) ≤ 9223372036854775807) ∧ (((-9223372036854775808) ≤ (x6 : Int) ∧ (x6 : Int) ≤ 9223372036854775807) ∧ (((-9223372036854775808) ≤ (x7 : Int) ∧ (x7 : Int) ≤ 9223372036854775807) ∧ ((decide ((x0 : Int) ≤ x1) = true → (((-9223372036854775808) ≤ ((x2) : Int) ∧ ((x2) : Int) ≤ 9223372036854775807) ∧ (((-9223372036854775808) ≤ ((x3) : Int) ∧ ((x3) : Int) ≤ 9223372036854775807) ∧ (((-9223372036854775808) ≤ ((x4) : Int) ∧ ((x4) : Int) ≤ 9223372036854775807) ∧ (((-9223372036854775808) ≤ ((x5) : Int) ∧ ((x5) : Int) ≤ 9223372036854775807) ∧ (((-9223372036854775808) ≤ ((x6) : Int) ∧ ((x6) : Int) ≤ 9223372036854775807) ∧ (((-9223372036854775808) ≤ ((x7) : Int) ∧ ((x7) : Int) ≤ 9223372036854775807) ∧ R ((f0 0)) ((f1 0)) ((f2 0)) ((f3 0)) ((x2)) ((x3)) ((x4)) ((x5)) ((x6)) ((x7)) (0) (0)))))))) ∧
      (decide ((x0 : Int) ≤ x1) = false → (∃ v8 : Int, Spec Try.prog etalonref06_CheckReading_s ⟨[(f0 x1), (f1 x1), (f2 x1), (f3 x1), (f4 x1), (f5 x1), (f6 x1), (f7 x1), (f8 x1), (f9 x1)], [], []⟩ [v8] [] [] ∧
       ((((v8 : Int) == 0) = true → (((((f1 x1) : Int) == (f1 0)) = true → (((((f2 x1) : Int) == (f2 0)) = true → (((((f3 x1) : Int) == (f3 0)) = true → (∃ v9 : Int, ∃ v10 : Int, ∃ u0 : Bool, Spec Try.prog etalonref06_common_s ⟨[x2, x3, (f4 x1), (f5 x1)], [], []⟩ [v9, v10] [u0] [] ∧
           (∃ v11 : Int, ∃ v12 : Int, ∃ u1 : Bool, Spec Try.prog etalonref06_common_s ⟨[x4, x5, (f6 x1), (f7 x1)], [], []⟩ [v11, v12] [u1] [] ∧
           (∃ v13 : Int, ∃ v14 : Int, ∃ u2 : Bool, Spec Try.prog etalonref06_common_s ⟨[x6, x7, (f8 x1), (f9 x1)], [], []⟩ [v13, v14] [u2] [] ∧
           ((u0 = true → ((u1 = true → ((u2 = true → (I1 ((x1 + 1)) (v9) (v10) (v11) (v12) (v13) (v14) ∧ rk1 ((x1 + 1)) (v9) (v10) (v11) (v12) (v13) (v14) < rk1 x1 x2 x3 x4 x5 x6 x7)) ∧
             (u2 = false → (((-9223372036854775808) ≤ ((x1) : Int) ∧ ((x1) : Int) ≤ 9223372036854775807) ∧ (((-9223372036854775808) ≤ ((14) : Int) ∧ ((14) : Int) ≤ 9223372036854775807) ∧ (((-9223372036854775808) ≤ ((x2) : Int) ∧ ((x2) : Int) ≤ 9223372036854775807) ∧ (((-9223372036854775808) ≤ ((x3) : Int) ∧ ((x3) : Int) ≤ 9223372036854775807) ∧ (((-9223372036854775808) ≤ ((x4) : Int) ∧ ((x4) : Int) ≤ 9223372036854775807) ∧ (((-9223372036854775808) ≤ ((x5) : Int) ∧ ((x5) : Int) ≤ 9223372036854775807) ∧ (((-9223372036854775808) ≤ ((x6) : Int) ∧ ((x6) : Int) ≤ 9223372036854775807) ∧ (((-9223372036854775808) ≤ ((x7) : Int) ∧ ((x7) : Int) ≤ 9223372036854775807) ∧ R (0) (0) (0) (0) (0) (0) (0) (0) (0) (0) ((x1)) ((14))))))))))))) ∧
            (u1 = false → (((-9223372036854775808) ≤ ((x1) : Int) ∧ ((x1) : Int) ≤ 9223372036854775807) ∧ (((-9223372036854775808) ≤ ((14) : Int) ∧ ((14) : Int) ≤ 9223372036854775807) ∧ (((-9223372036854775808) ≤ ((x2) : Int) ∧ ((x2) : Int) ≤ 9223372036854775807) ∧ (((-9223372036854775808) ≤ ((x3) : Int) ∧ ((x3) : Int) ≤ 9223372036854775807) ∧ (((-9223372036854775808) ≤ ((x4) : Int) ∧ ((x4) : Int) ≤ 9223372036854775807) ∧ (((-9223372036854775808) ≤ ((x5) : Int) ∧ ((x5) : Int) ≤ 9223372036854775807) ∧ (((-9223372036854775808) ≤ ((x6) : Int) ∧ ((x6) : Int) ≤ 9223372036854775807) ∧ (((-9223372036854775808) ≤ ((x7) : Int) ∧ ((x7) : Int) ≤ 9223372036854775807) ∧ R (0) (0) (0) (0) (0) (0) (0) (0) (0) (0) ((x1)) ((14))))))))))))) ∧
           (u0 = false → (((-9223372036854775808) ≤ ((x1) : Int) ∧ ((x1) : Int) ≤ 9223372036854775807) ∧ (((-9223372036854775808) ≤ ((14) : Int) ∧ ((14) : Int) ≤ 9223372036854775807) ∧ (((-9223372036854775808) ≤ ((x2) : Int) ∧ ((x2) : Int) ≤ 9223372036854775807) ∧ (((-9223372036854775808) ≤ ((x3) : Int) ∧ ((x3) : Int) ≤ 9223372036854775807) ∧ (((-9223372036854775808) ≤ ((x4) : Int) ∧ ((x4) : Int) ≤ 9223372036854775807) ∧ (((-9223372036854775808) ≤ ((x5) : Int) ∧ ((x5) : Int) ≤ 9223372036854775807) ∧ (((-9223372036854775808) ≤ ((x6) : Int) ∧ ((x6) : Int) ≤ 9223372036854775807) ∧ (((-9223372036854775808) ≤ ((x7) : Int) ∧ ((x7) : Int) ≤ 9223372036854775807) ∧ R (0) (0) (0) (0) (0) (0) (0) (0) (0) (0) ((x1)) ((14)))))))))))))))) ∧
          ((((f3 x1) : Int) == (f3 0)) = false → (((-9223372036854775808) ≤ ((x1) : Int) ∧ ((x1) : Int) ≤ 9223372036854775807) ∧ (((-9223372036854775808) ≤ ((25) : Int) ∧ ((25) : Int) ≤ 9223372036854775807) ∧ (((-9223372036854775808) ≤ ((x2) : Int) ∧ ((x2) : Int) ≤ 9223372036854775807) ∧ (((-9223372036854775808) ≤ ((x3) : Int) ∧ ((x3) : Int) ≤ 9223372036854775807) ∧ (((-9223372036854775808) ≤ ((x4) : Int) ∧ ((x4) : Int) ≤ 9223372036854775807) ∧ (((-9223372036854775808) ≤ ((x5) : Int) ∧ ((x5) : Int) ≤ 9223372036854775807) ∧ (((-9223372036854775808) ≤ ((x6) : Int) ∧ ((x6) : Int) ≤ 9223372036854775807) ∧ (((-9223372036854775808) ≤ ((x7) : Int) ∧ ((x7) : Int) ≤ 9223372036854775807) ∧ R (0) (0) (0) (0) (0) (0) (0) (0) (0) (0) ((x1)) ((25))))))))))))) ∧
         ((((f2 x1) : Int) == (f2 0)) = false → (((-9223372036854775808) ≤ ((x1) : Int) ∧ ((x1) : Int) ≤ 9223372036854775807) ∧ (((-9223372036854775808) ≤ ((25) : Int) ∧ ((25) : Int) ≤ 9223372036854775807) ∧ (((-9223372036854775808) ≤ ((x2) : Int) ∧ ((x2) : Int) ≤ 9223372036854775807) ∧ (((-9223372036854775808) ≤ ((x3) : Int) ∧ ((x3) : Int) ≤ 9223372036854775807) ∧ (((-9223372036854775808) ≤ ((x4) : Int) ∧ ((x4) : Int) ≤ 9223372036854775807) ∧ (((-9223372036854775808) ≤ ((x5) : Int) ∧ ((x5) : Int) ≤ 9223372036854775807) ∧ (((-9223372036854775808) ≤ ((x6) : Int) ∧ ((x6) : Int) ≤ 9223372036854775807) ∧ (((-9223372036854775808) ≤ ((x7) : Int) ∧ ((x7) : Int) ≤ 9223372036854775807) ∧ R (0) (0) (0) (0) (0) (0) (0) (0) (0) (0) ((x1)) ((25))))))))))))) ∧
        ((((f1 x1) : Int) == (f1 0)) = false → (((-9223372036854775808) ≤ ((x1) : Int) ∧ ((x1) : Int) ≤ 9223372036854775807) ∧ (((-9223372036854775808) ≤ ((25) : Int) ∧ ((25) : Int) ≤ 9223372036854775807) ∧ (((-9223372036854775808) ≤ ((x2) : Int) ∧ ((x2) : Int) ≤ 9223372036854775807) ∧ (((-9223372036854775808) ≤ ((x3) : Int) ∧ ((x3) : Int) ≤ 9223372036854775807) ∧ (((-9223372036854775808) ≤ ((x4) : Int) ∧ ((x4) : Int) ≤ 9223372036854775807) ∧ (((-9223372036854775808) ≤ ((x5) : Int) ∧ ((x5) : Int) ≤ 9223372036854775807) ∧ (((-9223372036854775808) ≤ ((x6) : Int) ∧ ((x6) : Int) ≤ 9223372036854775807) ∧ (((-9223372036854775808) ≤ ((x7) : Int) ∧ ((x7) : Int) ≤ 9223372036854775807) ∧ R (0) (0) (0) (0) (0) (0) (0) (0) (0) (0) ((x1)) ((25))))))))))))) ∧
       (((v8 : Int) == 0) = false → (((-9223372036854775808) ≤ ((x1) : Int) ∧ ((x1) : Int) ≤ 9223372036854775807) ∧ (((-9223372036854775808) ≤ ((v8) : Int) ∧ ((v8) : Int) ≤ 9223372036854775807) ∧ (((-9223372036854775808) ≤ ((x2) : Int) ∧ ((x2) : Int) ≤ 9223372036854775807) ∧ (((-9223372036854775808) ≤ ((x3) : Int) ∧ ((x3) : Int) ≤ 9223372036854775807) ∧ (((-9223372036854775808) ≤ ((x4) : Int) ∧ ((x4) : Int) ≤ 9223372036854775807) ∧ (((-9223372036854775808) ≤ ((x5) : Int) ∧ ((x5) : Int) ≤ 9223372036854775807) ∧ (((-9223372036854775808) ≤ ((x6) : Int) ∧ ((x6) : Int) ≤ 9223372036854775807) ∧ (((-9223372036854775808) ≤ ((x7) : Int) ∧ ((x7) : Int) ≤ 9223372036854775807) ∧ R (0) (0) (0) (0) (0) (0) (0) (0) (0) (0) ((x1)) ((v8))))))))))))))))))))))))) ∧
    (decide ((x0 : Int) ≤ 20) = false → R (0) (0) (0) (0) (0) (0) (0) (0) (0) (0) (0) (8)))))) :
    ∃ v0 : Int, ∃ v1 : Int, ∃ v2 : Int, ∃ v3 : Int, ∃ v4 : Int, ∃ v5 : Int, ∃ v6 : Int, ∃ v7 : Int, ∃ v8 : Int, ∃ v9 : Int, ∃ v10 : Int, ∃ v11 : Int, R v0 v1 v2 v3 v4 v5 v6 v7 v8 v9 v10 v11 ∧ Spec Try.prog etalonref06_Averaged_s ⟨[x0], [], [f0, f1, f2, f3, f4, f5, f6, f7, f8, f9]⟩ [v0, v1, v2, v3, v4, v5, v6, v7, v8, v9, v10, v11] [] [] :=
  Eq.mp (by kernel_rfl) (exV_of (K := fun d => app3 etalonref06_Averaged_s.out R d ∧ Spec Try.prog etalonref06_Averaged_s ⟨[x0], [], [f0, f1, f2, f3, f4, f5, f6, f7, f8, f9]⟩ d.1 d.2.1 d.2.2) (tree_at mixed names S1_ok (S := S1 Try.prog) (lf := 100000) (d := 60) etalonref06_Averaged_s mrv_t { ivs := [(0, 0, 22)], aivs := [(1, (-9223372036854775808), 9223372036854775807), (2, (-9223372036854775808), 9223372036854775807), (3, (-9223372036854775808), 9223372036854775807), (4, (-9223372036854775808), 9223372036854775807), (5, (-9223372036854775808), 9223372036854775807), (6, (-9223372036854775808), 9223372036854775807), (7, (-9223372036854775808), 9223372036854775807), (8, (-9223372036854775808), 9223372036854775807), (9, (-9223372036854775808), 9223372036854775807)] } ⟨[x0], [], [f0, f1, f2, f3, f4, f5, f6, f7, f8, f9]⟩ rfl (by kernel_rfl) (by kernel_rfl) (by kernel_rfl) ⟨(fc r0 fz), fz, (fc s1 (fc s2 (fc s3 (fc s4 (fc s5 (fc s6 (fc s7 (fc s8 (fc s9 fz))))))))), fz⟩ (R := fun d => app3 etalonref06_Averaged_s.out R d) (Eq.mp (by kernel_rfl) H)))

def mla_t : Tr :=
  (.call etalonlaw06_awake_s ⟨[], [], []⟩ ⟨[], [(.var 0)], []⟩ ⟨6, [], [], [none], (.bool (.var 0)), []⟩
  (.ite (.var 0)
  (.ite (.icmp .leq (.var 0) (.lit 6))
   (.loop ⟨3, [0, 1, 0, 1, 1, 1], [(.asl 0 (.var 0)), (.tuple []), (.bool (.lit false)), (.int .i64 (.lit 0)), (.tuple []), (.tuple []), (.tuple []), (.tuple []), (.tuple []), (.tuple []), (.tuple []), (.bool (.var 0)), (.bool (.not (.var 0))), (.asl 0 (.var 0)), (.int .i64 (.var 0)), (.bool (.icmp .gtr (.var 0) (.lit 6))), (.bool (.icmp .gtr (.var 0) (.lit 6))), (.tuple []), (.tuple []), (.tuple []), (.bool (.lit false)), (.bool (.lit false)), (.asl 0 (.var 0)), (.int .i64 (.var 0)), (.bool (.icmp .gtr (.var 0) (.lit 22))), (.bool (.icmp .gtr (.var 0) (.lit 22))), (.tuple []), (.tuple []), (.tuple []), (.tuple []), (.tuple []), (.tuple []), (.tuple []), (.tuple []), (.tuple []), (.tuple []), (.tuple []), (.tuple []), (.tuple []), (.tuple []), (.tuple []), (.tuple []), (.tuple []), (.tuple []), (.tuple []), (.tuple []), (.tuple []), (.tuple []), (.tuple []), (.tuple []), (.tuple []), (.tuple []), (.tuple []), (.tuple []), (.tuple []), (.tuple []), (.tuple []), (.tuple []), (.tuple []), (.tuple []), (.tuple []), (.tuple []), (.tuple []), (.tuple []), (.tuple []), (.tuple []), (.tuple []), (.tuple []), (.tuple []), (.tuple []), (.tuple []), (.tuple []), (.tuple []), (.tuple []), (.tuple []), (.tuple []), (.tuple []), (.tuple []), (.tuple []), (.tuple []), (.tuple []), (.tuple []), (.tuple []), (.tuple []), (.tuple []), (.tuple []), (.tuple []), (.tuple []), (.tuple []), (.tuple []), (.tuple []), (.tuple []), (.tuple []), (.tuple []), (.tuple []), (.tuple []), (.tuple []), (.tuple []), (.tuple []), (.tuple []), (.tuple []), (.tuple []), (.tuple []), (.tuple []), (.tuple []), (.tuple []), (.tuple [])], [(some ⟨[], 29, true, false, (some ⟨(.var 0), [.str, (.int .i64), (.int .i64), (.int .i64), (.int .i64), (.int .i64), (.int .i64), (.int .i64), (.int .i64), (.int .i64)], [(.avar 0), (.avar 1), (.avar 2), (.avar 3), (.avar 4), (.avar 5), (.avar 6), (.avar 7), (.avar 8), (.avar 9)]⟩)⟩)], [], [(.asl 0 (.var 0)), (.tuple []), (.bool (.lit false)), (.int .i64 (.var 1)), (.tuple []), (.tuple []), (.tuple []), (.tuple []), (.tuple []), (.tuple []), (.tuple []), (.bool (.var 0)), (.bool (.not (.var 0))), (.asl 0 (.var 0)), (.int .i64 (.var 0)), (.bool (.icmp .gtr (.var 0) (.lit 6))), (.bool (.icmp .gtr (.var 0) (.lit 6))), (.tuple []), (.tuple []), (.tuple []), (.bool (.lit false)), (.bool (.lit false)), (.asl 0 (.var 0)), (.int .i64 (.var 0)), (.bool (.icmp .gtr (.var 0) (.lit 22))), (.bool (.icmp .gtr (.var 0) (.lit 22))), (.any 26), (.any 27), (.any 28), (.any 29), (.any 30), (.any 31), (.any 32), (.any 33), (.any 34), (.any 35), (.any 36), (.any 37), (.any 38), (.tuple []), (.tuple []), (.tuple []), (.tuple []), (.tuple []), (.tuple []), (.tuple []), (.tuple []), (.tuple []), (.tuple []), (.tuple []), (.tuple []), (.tuple []), (.tuple []), (.tuple []), (.tuple []), (.tuple []), (.tuple []), (.tuple []), (.tuple []), (.tuple []), (.tuple []), (.tuple []), (.tuple []), (.tuple []), (.tuple []), (.tuple []), (.tuple []), (.tuple []), (.tuple []), (.tuple []), (.tuple []), (.tuple []), (.tuple []), (.tuple []), (.tuple []), (.tuple []), (.tuple []), (.tuple []), (.tuple []), (.tuple []), (.tuple []), (.tuple []), (.tuple []), (.tuple []), (.tuple []), (.tuple []), (.tuple []), (.tuple []), (.tuple []), (.tuple []), (.tuple []), (.tuple []), (.tuple []), (.tuple []), (.tuple []), (.tuple []), (.tuple []), (.tuple []), (.tuple []), (.tuple []), (.tuple []), (.tuple []), (.tuple []), (.tuple []), (.tuple []), (.tuple []), (.tuple [])], [(some ⟨[], 29, true, false, (some ⟨(.var 0), [.str, (.int .i64), (.int .i64), (.int .i64), (.int .i64), (.int .i64), (.int .i64), (.int .i64), (.int .i64), (.int .i64)], [(.avar 0), (.avar 1), (.avar 2), (.avar 3), (.avar 4), (.avar 5), (.avar 6), (.avar 7), (.avar 8), (.avar 9)]⟩)⟩)], [], ⟨1, 0, 0⟩, ⟨[(.lit 0)], [], []⟩, []⟩
    (.rng 1 0 22 (.ite (.icmp .leq (.var 0) (.var 1))
     (.out 1 ⟨[], [], []⟩ [])
     (.ite (.icmp .leq (.bin .sLen (.sel (.avar 0) (.var 1)) (.lit 0)) (.lit 30))
      (.next ⟨[(.bin .addI (.var 1) (.lit 1))], [], []⟩ [])
      (.out 0 ⟨[], [], []⟩ []))))
    (.ex (.ret, [(.asl 0 (.var 0)), (.tuple []), (.bool (.lit true)), (.any 3), (.tuple []), (.tuple []), (.tuple []), (.tuple []), (.tuple []), (.tuple []), (.tuple []), (.bool (.var 0)), (.bool (.not (.var 0))), (.asl 0 (.var 0)), (.int .i64 (.var 0)), (.bool (.icmp .gtr (.var 0) (.lit 6))), (.bool (.icmp .gtr (.var 0) (.lit 6))), (.tuple []), (.tuple []), (.tuple []), (.bool (.lit false)), (.bool (.lit false)), (.asl 0 (.var 0)), (.int .i64 (.var 0)), (.bool (.icmp .gtr (.var 0) (.lit 22))), (.bool (.icmp .gtr (.var 0) (.lit 22))), (.any 26), (.any 27), (.any 28), (.any 29), (.any 30), (.any 31), (.any 32), (.any 33), (.any 34), (.any 35), (.any 36), (.any 37), (.any 38), (.tuple []), (.tuple []), (.tuple []), (.tuple []), (.tuple []), (.tuple []), (.tuple []), (.tuple []), (.tuple []), (.tuple []), (.tuple []), (.tuple []), (.tuple []), (.tuple []), (.tuple []), (.tuple []), (.tuple []), (.tuple []), (.tuple []), (.tuple []), (.tuple []), (.tuple []), (.tuple []), (.tuple []), (.tuple []), (.tuple []), (.tuple []), (.tuple []), (.tuple []), (.tuple []), (.tuple []), (.tuple []), (.tuple []), (.tuple []), (.tuple []), (.tuple []), (.tuple []), (.tuple []), (.tuple []), (.tuple []), (.tuple []), (.tuple []), (.tuple []), (.tuple []), (.tuple []), (.tuple []), (.tuple []), (.tuple []), (.tuple []), (.tuple []), (.tuple []), (.tuple []), (.tuple []), (.tuple []), (.tuple []), (.tuple []), (.tuple []), (.tuple []), (.tuple []), (.tuple []), (.tuple []), (.tuple []), (.tuple []), (.tuple []), (.tuple []), (.tuple []), (.tuple []), (.tuple [])], [(some ⟨[], 29, true, false, (some ⟨(.var 0), [.str, (.int .i64), (.int .i64), (.int .i64), (.int .i64), (.int .i64), (.int .i64), (.int .i64), (.int .i64), (.int .i64)], [(.avar 0), (.avar 1), (.avar 2), (.avar 3), (.avar 4), (.avar 5), (.avar 6), (.avar 7), (.avar 8), (.avar 9)]⟩)⟩)], []) ⟨0, 0, 0⟩
    (.ret ⟨[], [(.lit true)], []⟩ [])
    (.ex ((.exit 0), [(.asl 0 (.var 0)), (.tuple []), (.bool (.lit false)), (.any 3), (.tuple []), (.tuple []), (.tuple []), (.tuple []), (.tuple []), (.tuple []), (.tuple []), (.bool (.var 0)), (.bool (.not (.var 0))), (.asl 0 (.var 0)), (.int .i64 (.var 0)), (.bool (.icmp .gtr (.var 0) (.lit 6))), (.bool (.icmp .gtr (.var 0) (.lit 6))), (.tuple []), (.tuple []), (.tuple []), (.bool (.lit false)), (.bool (.lit false)), (.asl 0 (.var 0)), (.int .i64 (.var 0)), (.bool (.icmp .gtr (.var 0) (.lit 22))), (.bool (.icmp .gtr (.var 0) (.lit 22))), (.any 26), (.any 27), (.any 28), (.any 29), (.any 30), (.any 31), (.any 32), (.any 33), (.any 34), (.any 35), (.any 36), (.any 37), (.any 38), (.tuple []), (.tuple []), (.tuple []), (.tuple []), (.tuple []), (.tuple []), (.tuple []), (.tuple []), (.tuple []), (.tuple []), (.tuple []), (.tuple []), (.tuple []), (.tuple []), (.tuple []), (.tuple []), (.tuple []), (.tuple []), (.tuple []), (.tuple []), (.tuple []), (.tuple []), (.tuple []), (.tuple []), (.tuple []), (.tuple []), (.tuple []), (.tuple []), (.tuple []), (.tuple []), (.tuple []), (.tuple []), (.tuple []), (.tuple []), (.tuple []), (.tuple []), (.tuple []), (.tuple []), (.tuple []), (.tuple []), (.tuple []), (.tuple []), (.tuple []), (.tuple []), (.tuple []), (.tuple []), (.tuple []), (.tuple []), (.tuple []), (.tuple []), (.tuple []), (.tuple []), (.tuple []), (.tuple []), (.tuple []), (.tuple []), (.tuple []), (.tuple []), (.tuple []), (.tuple []), (.tuple []), (.tuple []), (.tuple []), (.tuple []), (.tuple []), (.tuple []), (.tuple []), (.tuple [])], [(some ⟨[], 29, true, false, (some ⟨(.var 0), [.str, (.int .i64), (.int .i64), (.int .i64), (.int .i64), (.int .i64), (.int .i64), (.int .i64), (.int .i64), (.int .i64)], [(.avar 0), (.avar 1), (.avar 2), (.avar 3), (.avar 4), (.avar 5), (.avar 6), (.avar 7), (.avar 8), (.avar 9)]⟩)⟩)], []) ⟨0, 0, 0⟩
    (.call meter_Averaged_s ⟨[(.var 0)], [], [(.avar 0), (.avar 1), (.avar 2), (.avar 3), (.avar 4), (.avar 5), (.avar 6), (.avar 7), (.avar 8), (.avar 9)]⟩ ⟨[(.var 0), (.var 1), (.var 2), (.var 3), (.var 4), (.var 5), (.var 6), (.var 7), (.var 8), (.var 9), (.var 10), (.var 11), (.var 12)], [], [(.avar 0), (.avar 1), (.avar 2), (.avar 3), (.avar 4), (.avar 5), (.avar 6), (.avar 7), (.avar 8), (.avar 9)]⟩ ⟨7, [(.asl 2 (.var 0))], [2], [none, none, (some ⟨[], 29, false, true, (some ⟨(.var 0), [.str, (.int .i64), (.int .i64), (.int .i64), (.int .i64), (.int .i64), (.int .i64), (.int .i64), (.int .i64), (.int .i64)], [(.avar 0), (.avar 1), (.avar 2), (.avar 3), (.avar 4), (.avar 5), (.avar 6), (.avar 7), (.avar 8), (.avar 9)]⟩)⟩)], (.tuple [(.agg [(.strn (.var 1)), (.int .i64 (.var 2)), (.int .i64 (.var 3)), (.int .i64 (.var 4)), (.int .i64 (.var 5)), (.int .i64 (.var 6)), (.int .i64 (.var 7)), (.int .i64 (.var 8)), (.int .i64 (.var 9)), (.int .i64 (.var 10))]), (.int .i64 (.var 11)), (.int .i64 (.var 12))]), []⟩
     (.call etalonref06_Averaged_s ⟨[(.var 0)], [], [(.avar 0), (.avar 1), (.avar 2), (.avar 3), (.avar 4), (.avar 5), (.avar 6), (.avar 7), (.avar 8), (.avar 9)]⟩ ⟨[(.var 0), (.var 13), (.var 14), (.var 15), (.var 16), (.var 17), (.var 18), (.var 19), (.var 20), (.var 21), (.var 22), (.var 23), (.var 24)], [], [(.avar 0), (.avar 1), (.avar 2), (.avar 3), (.avar 4), (.avar 5), (.avar 6), (.avar 7), (.avar 8), (.avar 9)]⟩ ⟨8, [(.asl 0 (.var 0))], [0], [(some ⟨[], 29, true, false, (some ⟨(.var 0), [.str, (.int .i64), (.int .i64), (.int .i64), (.int .i64), (.int .i64), (.int .i64), (.int .i64), (.int .i64), (.int .i64)], [(.avar 0), (.avar 1), (.avar 2), (.avar 3), (.avar 4), (.avar 5), (.avar 6), (.avar 7), (.avar 8), (.avar 9)]⟩)⟩), none, none, none], (.tuple [(.agg [(.strn (.var 13)), (.int .i64 (.var 14)), (.int .i64 (.var 15)), (.int .i64 (.var 16)), (.int .i64 (.var 17)), (.int .i64 (.var 18)), (.int .i64 (.var 19)), (.int .i64 (.var 20)), (.int .i64 (.var 21)), (.int .i64 (.var 22))]), (.int .i64 (.var 23)), (.int .i64 (.var 24))]), []⟩
     (.ite (.icmp .eql (.var 12) (.var 24))
     (.ite (.icmp .eql (.var 11) (.var 23))
      (.ite (.icmp .eql (.bin .maxI (.var 1) (.lit 0)) (.bin .maxI (.var 13) (.lit 0)))
       (.ite (.icmp .eql (.var 2) (.var 14))
        (.ite (.icmp .eql (.var 3) (.var 15))
         (.ite (.icmp .eql (.var 4) (.var 16))
          (.ite (.icmp .eql (.var 5) (.var 17))
           (.ite (.icmp .eql (.var 6) (.var 18))
            (.ite (.icmp .eql (.var 7) (.var 19))
             (.ite (.icmp .eql (.var 8) (.var 20))
              (.ite (.icmp .eql (.var 9) (.var 21))
               (.ite (.icmp .eql (.var 10) (.var 22))
                (.loop ⟨3, [0, 1, 0, 1, 1, 1, 1, 1, 1, 1], [(.asl 0 (.var 0)), (.tuple []), (.bool (.lit false)), (.any 3), (.ptr (some ⟨3, 0, none⟩)), (.int .i64 (.var 11)), (.int .i64 (.var 12)), (.ptr (some ⟨4, 0, none⟩)), (.int .i64 (.var 23)), (.int .i64 (.var 24)), (.int .i64 (.lit 0)), (.bool (.var 0)), (.bool (.not (.var 0))), (.asl 0 (.var 0)), (.int .i64 (.var 0)), (.bool (.icmp .gtr (.var 0) (.lit 6))), (.bool (.icmp .gtr (.var 0) (.lit 6))), (.tuple []), (.tuple []), (.tuple []), (.bool (.lit false)), (.bool (.lit false)), (.asl 0 (.var 0)), (.int .i64 (.var 0)), (.bool (.icmp .gtr (.var 0) (.lit 22))), (.bool (.icmp .gtr (.var 0) (.lit 22))), (.any 26), (.any 27), (.any 28), (.any 29), (.any 30), (.any 31), (.any 32), (.any 33), (.any 34), (.any 35), (.any 36), (.any 37), (.any 38), (.tuple [(.agg [(.strn (.var 1)), (.int .i64 (.var 2)), (.int .i64 (.var 3)), (.int .i64 (.var 4)), (.int .i64 (.var 5)), (.int .i64 (.var 6)), (.int .i64 (.var 7)), (.int .i64 (.var 8)), (.int .i64 (.var 9)), (.int .i64 (.var 10))]), (.int .i64 (.var 11)), (.int .i64 (.var 12))]), (.slice (some ⟨1, 0, none⟩) 0 0), (.asl 0 (.var 0)), (.asl 2 (.var 0)), (.tuple [(.agg [(.strn (.var 1)), (.int .i64 (.var 2)), (.int .i64 (.var 3)), (.int .i64 (.var 4)), (.int .i64 (.var 5)), (.int .i64 (.var 6)), (.int .i64 (.var 7)), (.int .i64 (.var 8)), (.int .i64 (.var 9)), (.int .i64 (.var 10))]), (.int .i64 (.var 11)), (.int .i64 (.var 12))]), (.agg [(.strn (.var 1)), (.int .i64 (.var 2)), (.int .i64 (.var 3)), (.int .i64 (.var 4)), (.int .i64 (.var 5)), (.int .i64 (.var 6)), (.int .i64 (.var 7)), (.int .i64 (.var 8)), (.int .i64 (.var 9)), (.int .i64 (.var 10))]), (.int .i64 (.var 11)), (.int .i64 (.var 12)), (.tuple [(.agg [(.strn (.var 13)), (.int .i64 (.var 14)), (.int .i64 (.var 15)), (.int .i64 (.var 16)), (.int .i64 (.var 17)), (.int .i64 (.var 18)), (.int .i64 (.var 19)), (.int .i64 (.var 20)), (.int .i64 (.var 21)), (.int .i64 (.var 22))]), (.int .i64 (.var 23)), (.int .i64 (.var 24))]), (.asl 0 (.var 0)), (.tuple [(.agg [(.strn (.var 13)), (.int .i64 (.var 14)), (.int .i64 (.var 15)), (.int .i64 (.var 16)), (.int .i64 (.var 17)), (.int .i64 (.var 18)), (.int .i64 (.var 19)), (.int .i64 (.var 20)), (.int .i64 (.var 21)), (.int .i64 (.var 22))]), (.int .i64 (.var 23)), (.int .i64 (.var 24))]), (.agg [(.strn (.var 13)), (.int .i64 (.var 14)), (.int .i64 (.var 15)), (.int .i64 (.var 16)), (.int .i64 (.var 17)), (.int .i64 (.var 18)), (.int .i64 (.var 19)), (.int .i64 (.var 20)), (.int .i64 (.var 21)), (.int .i64 (.var 22))]), (.int .i64 (.var 23)), (.int .i64 (.var 24)), (.int .i64 (.var 12)), (.int .i64 (.var 24)), (.bool (.icmp .neq (.var 12) (.var 24))), (.bool (.icmp .neq (.var 12) (.var 24))), (.int .i64 (.var 11)), (.int .i64 (.var 23)), (.bool (.icmp .neq (.var 11) (.var 23))), (.bool (.icmp .neq (.var 11) (.var 23))), (.bool (.icmp .neq (.var 11) (.var 23))), (.agg [(.strn (.var 1)), (.int .i64 (.var 2)), (.int .i64 (.var 3)), (.int .i64 (.var 4)), (.int .i64 (.var 5)), (.int .i64 (.var 6)), (.int .i64 (.var 7)), (.int .i64 (.var 8)), (.int .i64 (.var 9)), (.int .i64 (.var 10))]), (.agg [(.strn (.var 13)), (.int .i64 (.var 14)), (.int .i64 (.var 15)), (.int .i64 (.var 16)), (.int .i64 (.var 17)), (.int .i64 (.var 18)), (.int .i64 (.var 19)), (.int .i64 (.var 20)), (.int .i64 (.var 21)), (.int .i64 (.var 22))]), (.bool (.not (.and (.icmp .eql (.bin .maxI (.var 1) (.lit 0)) (.bin .maxI (.var 13) (.lit 0))) (.and (.icmp .eql (.var 2) (.var 14)) (.and (.and (.icmp .eql (.var 3) (.var 15)) (.icmp .eql (.var 4) (.var 16))) (.and (.and (.icmp .eql (.var 5) (.var 17)) (.icmp .eql (.var 6) (.var 18))) (.and (.and (.icmp .eql (.var 7) (.var 19)) (.icmp .eql (.var 8) (.var 20))) (.and (.icmp .eql (.var 9) (.var 21)) (.icmp .eql (.var 10) (.var 22)))))))))), (.bool (.not (.and (.icmp .eql (.bin .maxI (.var 1) (.lit 0)) (.bin .maxI (.var 13) (.lit 0))) (.and (.icmp .eql (.var 2) (.var 14)) (.and (.and (.icmp .eql (.var 3) (.var 15)) (.icmp .eql (.var 4) (.var 16))) (.and (.and (.icmp .eql (.var 5) (.var 17)) (.icmp .eql (.var 6) (.var 18))) (.and (.and (.icmp .eql (.var 7) (.var 19)) (.icmp .eql (.var 8) (.var 20))) (.and (.icmp .eql (.var 9) (.var 21)) (.icmp .eql (.var 10) (.var 22)))))))))), (.tuple []), (.tuple []), (.tuple []), (.tuple []), (.tuple []), (.tuple []), (.tuple []), (.tuple []), (.tuple []), (.tuple []), (.tuple []), (.tuple []), (.tuple []), (.tuple []), (.tuple []), (.tuple []), (.tuple []), (.tuple []), (.tuple []), (.tuple []), (.tuple []), (.tuple []), (.tuple []), (.tuple []), (.tuple []), (.tuple []), (.tuple []), (.tuple []), (.tuple []), (.tuple []), (.tuple []), (.tuple []), (.tuple []), (.tuple []), (.tuple []), (.tuple []), (.tuple []), (.tuple []), (.tuple []), (.tuple []), (.tuple [])], [(some ⟨[], 29, true, false, (some ⟨(.var 0), [.str, (.int .i64), (.int .i64), (.int .i64), (.int .i64), (.int .i64), (.int .i64), (.int .i64), (.int .i64), (.int .i64)], [(.avar 0), (.avar 1), (.avar 2), (.avar 3), (.avar 4), (.avar 5), (.avar 6), (.avar 7), (.avar 8), (.avar 9)]⟩)⟩), (some ⟨[], 29, false, false, none⟩), (some ⟨[], 29, false, true, (some ⟨(.var 0), [.str, (.int .i64), (.int .i64), (.int .i64), (.int .i64), (.int .i64), (.int .i64), (.int .i64), (.int .i64), (.int .i64)], [(.avar 0), (.avar 1), (.avar 2), (.avar 3), (.avar 4), (.avar 5), (.avar 6), (.avar 7), (.avar 8), (.avar 9)]⟩)⟩), (some ⟨[(.strn (.var 1)), (.int .i64 (.var 2)), (.int .i64 (.var 3)), (.int .i64 (.var 4)), (.int .i64 (.var 5)), (.int .i64 (.var 6)), (.int .i64 (.var 7)), (.int .i64 (.var 8)), (.int .i64 (.var 9)), (.int .i64 (.var 10))], 29, false, false, none⟩), (some ⟨[(.strn (.var 13)), (.int .i64 (.var 14)), (.int .i64 (.var 15)), (.int .i64 (.var 16)), (.int .i64 (.var 17)), (.int .i64 (.var 18)), (.int .i64 (.var 19)), (.int .i64 (.var 20)), (.int .i64 (.var 21)), (.int .i64 (.var 22))], 29, false, false, none⟩)], [], [(.asl 0 (.var 0)), (.tuple []), (.bool (.lit false)), (.any 3), (.ptr (some ⟨3, 0, none⟩)), (.int .i64 (.var 11)), (.int .i64 (.var 12)), (.ptr (some ⟨4, 0, none⟩)), (.int .i64 (.var 23)), (.int .i64 (.var 24)), (.int .i64 (.var 25)), (.bool (.var 0)), (.bool (.not (.var 0))), (.asl 0 (.var 0)), (.int .i64 (.var 0)), (.bool (.icmp .gtr (.var 0) (.lit 6))), (.bool (.icmp .gtr (.var 0) (.lit 6))), (.tuple []), (.tuple []), (.tuple []), (.bool (.lit false)), (.bool (.lit false)), (.asl 0 (.var 0)), (.int .i64 (.var 0)), (.bool (.icmp .gtr (.var 0) (.lit 22))), (.bool (.icmp .gtr (.var 0) (.lit 22))), (.any 26), (.any 27), (.any 28), (.any 29), (.any 30), (.any 31), (.any 32), (.any 33), (.any 34), (.any 35), (.any 36), (.any 37), (.any 38), (.tuple [(.agg [(.strn (.var 1)), (.int .i64 (.var 2)), (.int .i64 (.var 3)), (.int .i64 (.var 4)), (.int .i64 (.var 5)), (.int .i64 (.var 6)), (.int .i64 (.var 7)), (.int .i64 (.var 8)), (.int .i64 (.var 9)), (.int .i64 (.var 10))]), (.int .i64 (.var 11)), (.int .i64 (.var 12))]), (.slice (some ⟨1, 0, none⟩) 0 0), (.asl 0 (.var 0)), (.asl 2 (.var 0)), (.tuple [(.agg [(.strn (.var 1)), (.int .i64 (.var 2)), (.int .i64 (.var 3)), (.int .i64 (.var 4)), (.int .i64 (.var 5)), (.int .i64 (.var 6)), (.int .i64 (.var 7)), (.int .i64 (.var 8)), (.int .i64 (.var 9)), (.int .i64 (.var 10))]), (.int .i64 (.var 11)), (.int .i64 (.var 12))]), (.agg [(.strn (.var 1)), (.int .i64 (.var 2)), (.int .i64 (.var 3)), (.int .i64 (.var 4)), (.int .i64 (.var 5)), (.int .i64 (.var 6)), (.int .i64 (.var 7)), (.int .i64 (.var 8)), (.int .i64 (.var 9)), (.int .i64 (.var 10))]), (.int .i64 (.var 11)), (.int .i64 (.var 12)), (.tuple [(.agg [(.strn (.var 13)), (.int .i64 (.var 14)), (.int .i64 (.var 15)), (.int .i64 (.var 16)), (.int .i64 (.var 17)), (.int .i64 (.var 18)), (.int .i64 (.var 19)), (.int .i64 (.var 20)), (.int .i64 (.var 21)), (.int .i64 (.var 22))]), (.int .i64 (.var 23)), (.int .i64 (.var 24))]), (.asl 0 (.var 0)), (.tuple [(.agg [(.strn (.var 13)), (.int .i64 (.var 14)), (.int .i64 (.var 15)), (.int .i64 (.var 16)), (.int .i64 (.var 17)), (.int .i64 (.var 18)), (.int .i64 (.var 19)), (.int .i64 (.var 20)), (.int .i64 (.var 21)), (.int .i64 (.var 22))]), (.int .i64 (.var 23)), (.int .i64 (.var 24))]), (.agg [(.strn (.var 13)), (.int .i64 (.var 14)), (.int .i64 (.var 15)), (.int .i64 (.var 16)), (.int .i64 (.var 17)), (.int .i64 (.var 18)), (.int .i64 (.var 19)), (.int .i64 (.var 20)), (.int .i64 (.var 21)), (.int .i64 (.var 22))]), (.int .i64 (.var 23)), (.int .i64 (.var 24)), (.int .i64 (.var 12)), (.int .i64 (.var 24)), (.bool (.icmp .neq (.var 12) (.var 24))), (.bool (.icmp .neq (.var 12) (.var 24))), (.int .i64 (.var 11)), (.int .i64 (.var 23)), (.bool (.icmp .neq (.var 11) (.var 23))), (.bool (.icmp .neq (.var 11) (.var 23))), (.bool (.icmp .neq (.var 11) (.var 23))), (.agg [(.strn (.var 1)), (.int .i64 (.var 2)), (.int .i64 (.var 3)), (.int .i64 (.var 4)), (.int .i64 (.var 5)), (.int .i64 (.var 6)), (.int .i64 (.var 7)), (.int .i64 (.var 8)), (.int .i64 (.var 9)), (.int .i64 (.var 10))]), (.agg [(.strn (.var 13)), (.int .i64 (.var 14)), (.int .i64 (.var 15)), (.int .i64 (.var 16)), (.int .i64 (.var 17)), (.int .i64 (.var 18)), (.int .i64 (.var 19)), (.int .i64 (.var 20)), (.int .i64 (.var 21)), (.int .i64 (.var 22))]), (.bool (.not (.and (.icmp .eql (.bin .maxI (.var 1) (.lit 0)) (.bin .maxI (.var 13) (.lit 0))) (.and (.icmp .eql (.var 2) (.var 14)) (.and (.and (.icmp .eql (.var 3) (.var 15)) (.icmp .eql (.var 4) (.var 16))) (.and (.and (.icmp .eql (.var 5) (.var 17)) (.icmp .eql (.var 6) (.var 18))) (.and (.and (.icmp .eql (.var 7) (.var 19)) (.icmp .eql (.var 8) (.var 20))) (.and (.icmp .eql (.var 9) (.var 21)) (.icmp .eql (.var 10) (.var 22)))))))))), (.bool (.not (.and (.icmp .eql (.bin .maxI (.var 1) (.lit 0)) (.bin .maxI (.var 13) (.lit 0))) (.and (.icmp .eql (.var 2) (.var 14)) (.and (.and (.icmp .eql (.var 3) (.var 15)) (.icmp .eql (.var 4) (.var 16))) (.and (.and (.icmp .eql (.var 5) (.var 17)) (.icmp .eql (.var 6) (.var 18))) (.and (.and (.icmp .eql (.var 7) (.var 19)) (.icmp .eql (.var 8) (.var 20))) (.and (.icmp .eql (.var 9) (.var 21)) (.icmp .eql (.var 10) (.var 22)))))))))), (.any 66), (.any 67), (.any 68), (.any 69), (.any 70), (.any 71), (.any 72), (.any 73), (.any 74), (.any 75), (.any 76), (.any 77), (.any 78), (.any 79), (.any 80), (.any 81), (.any 82), (.any 83), (.any 84), (.any 85), (.any 86), (.any 87), (.any 88), (.any 89), (.any 90), (.any 91), (.any 92), (.any 93), (.any 94), (.any 95), (.any 96), (.any 97), (.any 98), (.any 99), (.any 100), (.any 101), (.any 102), (.any 103), (.any 104), (.any 105), (.any 106)], [(some ⟨[], 29, true, false, (some ⟨(.var 0), [.str, (.int .i64), (.int .i64), (.int .i64), (.int .i64), (.int .i64), (.int .i64), (.int .i64), (.int .i64), (.int .i64)], [(.avar 0), (.avar 1), (.avar 2), (.avar 3), (.avar 4), (.avar 5), (.avar 6), (.avar 7), (.avar 8), (.avar 9)]⟩)⟩), (some ⟨[], 29, false, false, none⟩), (some ⟨[], 29, false, true, (some ⟨(.var 0), [.str, (.int .i64), (.int .i64), (.int .i64), (.int .i64), (.int .i64), (.int .i64), (.int .i64), (.int .i64), (.int .i64)], [(.avar 0), (.avar 1), (.avar 2), (.avar 3), (.avar 4), (.avar 5), (.avar 6), (.avar 7), (.avar 8), (.avar 9)]⟩)⟩), (some ⟨[(.strn (.var 1)), (.int .i64 (.var 2)), (.int .i64 (.var 3)), (.int .i64 (.var 4)), (.int .i64 (.var 5)), (.int .i64 (.var 6)), (.int .i64 (.var 7)), (.int .i64 (.var 8)), (.int .i64 (.var 9)), (.int .i64 (.var 10))], 29, false, false, none⟩), (some ⟨[(.strn (.var 13)), (.int .i64 (.var 14)), (.int .i64 (.var 15)), (.int .i64 (.var 16)), (.int .i64 (.var 17)), (.int .i64 (.var 18)), (.int .i64 (.var 19)), (.int .i64 (.var 20)), (.int .i64 (.var 21)), (.int .i64 (.var 22))], 29, false, false, none⟩)], [], ⟨1, 0, 0⟩, ⟨[(.lit 0)], [], []⟩, []⟩
                 (.rng 25 0 22 (.ite (.icmp .leq (.var 0) (.var 25))
                  (.out 0 ⟨[], [], []⟩ [])
                  (.ite (.icmp .eql (.var 24) (.lit 0))
                   (.call etalonlaw06_inside_s ⟨[(.var 5), (.var 6), (.sel (.avar 4) (.var 25)), (.sel (.avar 5) (.var 25))], [], []⟩ ⟨[(.var 5), (.var 6), (.sel (.avar 4) (.var 25)), (.sel (.avar 5) (.var 25))], [(.var 1)], []⟩ ⟨9, [(.agg [(.int .i64 (.var 5)), (.int .i64 (.var 6))]), (.agg [(.int .i64 (.sel (.avar 4) (.var 25))), (.int .i64 (.sel (.avar 5) (.var 25)))])], [], [none, none, none, none, none], (.bool (.var 1)), []⟩
                    (.ite (.var 1)
                    (.call etalonlaw06_inside_s ⟨[(.var 7), (.var 8), (.sel (.avar 6) (.var 25)), (.sel (.avar 7) (.var 25))], [], []⟩ ⟨[(.var 7), (.var 8), (.sel (.avar 6) (.var 25)), (.sel (.avar 7) (.var 25))], [(.var 2)], []⟩ ⟨9, [(.agg [(.int .i64 (.var 7)), (.int .i64 (.var 8))]), (.agg [(.int .i64 (.sel (.avar 6) (.var 25))), (.int .i64 (.sel (.avar 7) (.var 25)))])], [], [none, none, none, none, none], (.bool (.var 2)), []⟩
                     (.ite (.var 2)
                     (.call etalonlaw06_inside_s ⟨[(.var 9), (.var 10), (.sel (.avar 8) (.var 25)), (.sel (.avar 9) (.var 25))], [], []⟩ ⟨[(.var 9), (.var 10), (.sel (.avar 8) (.var 25)), (.sel (.avar 9) (.var 25))], [(.var 3)], []⟩ ⟨9, [(.agg [(.int .i64 (.var 9)), (.int .i64 (.var 10))]), (.agg [(.int .i64 (.sel (.avar 8) (.var 25))), (.int .i64 (.sel (.avar 9) (.var 25)))])], [], [none, none, none, none, none], (.bool (.var 3)), []⟩
                      (.ite (.var 3)
                      (.next ⟨[(.bin .addI (.var 25) (.lit 1))], [], []⟩ [])
                      (.out 1 ⟨[], [], []⟩ [])))
                     (.out 1 ⟨[], [], []⟩ [])))
                    (.out 1 ⟨[], [], []⟩ [])))
                   (.out 0 ⟨[], [], []⟩ []))))
                 (.ex ((.exit 2), [(.asl 0 (.var 0)), (.tuple []), (.bool (.lit false)), (.any 3), (.ptr (some ⟨3, 0, none⟩)), (.int .i64 (.var 11)), (.int .i64 (.var 12)), (.ptr (some ⟨4, 0, none⟩)), (.int .i64 (.var 23)), (.int .i64 (.var 24)), (.any 10), (.bool (.var 0)), (.bool (.not (.var 0))), (.asl 0 (.var 0)), (.int .i64 (.var 0)), (.bool (.icmp .gtr (.var 0) (.lit 6))), (.bool (.icmp .gtr (.var 0) (.lit 6))), (.tuple []), (.tuple []), (.tuple []), (.bool (.lit false)), (.bool (.lit false)), (.asl 0 (.var 0)), (.int .i64 (.var 0)), (.bool (.icmp .gtr (.var 0) (.lit 22))), (.bool (.icmp .gtr (.var 0) (.lit 22))), (.any 26), (.any 27), (.any 28), (.any 29), (.any 30), (.any 31), (.any 32), (.any 33), (.any 34), (.any 35), (.any 36), (.any 37), (.any 38), (.tuple [(.agg [(.strn (.var 1)), (.int .i64 (.var 2)), (.int .i64 (.var 3)), (.int .i64 (.var 4)), (.int .i64 (.var 5)), (.int .i64 (.var 6)), (.int .i64 (.var 7)), (.int .i64 (.var 8)), (.int .i64 (.var 9)), (.int .i64 (.var 10))]), (.int .i64 (.var 11)), (.int .i64 (.var 12))]), (.slice (some ⟨1, 0, none⟩) 0 0), (.asl 0 (.var 0)), (.asl 2 (.var 0)), (.tuple [(.agg [(.strn (.var 1)), (.int .i64 (.var 2)), (.int .i64 (.var 3)), (.int .i64 (.var 4)), (.int .i64 (.var 5)), (.int .i64 (.var 6)), (.int .i64 (.var 7)), (.int .i64 (.var 8)), (.int .i64 (.var 9)), (.int .i64 (.var 10))]), (.int .i64 (.var 11)), (.int .i64 (.var 12))]), (.agg [(.strn (.var 1)), (.int .i64 (.var 2)), (.int .i64 (.var 3)), (.int .i64 (.var 4)), (.int .i64 (.var 5)), (.int .i64 (.var 6)), (.int .i64 (.var 7)), (.int .i64 (.var 8)), (.int .i64 (.var 9)), (.int .i64 (.var 10))]), (.int .i64 (.var 11)), (.int .i64 (.var 12)), (.tuple [(.agg [(.strn (.var 13)), (.int .i64 (.var 14)), (.int .i64 (.var 15)), (.int .i64 (.var 16)), (.int .i64 (.var 17)), (.int .i64 (.var 18)), (.int .i64 (.var 19)), (.int .i64 (.var 20)), (.int .i64 (.var 21)), (.int .i64 (.var 22))]), (.int .i64 (.var 23)), (.int .i64 (.var 24))]), (.asl 0 (.var 0)), (.tuple [(.agg [(.strn (.var 13)), (.int .i64 (.var 14)), (.int .i64 (.var 15)), (.int .i64 (.var 16)), (.int .i64 (.var 17)), (.int .i64 (.var 18)), (.int .i64 (.var 19)), (.int .i64 (.var 20)), (.int .i64 (.var 21)), (.int .i64 (.var 22))]), (.int .i64 (.var 23)), (.int .i64 (.var 24))]), (.agg [(.strn (.var 13)), (.int .i64 (.var 14)), (.int .i64 (.var 15)), (.int .i64 (.var 16)), (.int .i64 (.var 17)), (.int .i64 (.var 18)), (.int .i64 (.var 19)), (.int .i64 (.var 20)), (.int .i64 (.var 21)), (.int .i64 (.var 22))]), (.int .i64 (.var 23)), (.int .i64 (.var 24)), (.int .i64 (.var 12)), (.int .i64 (.var 24)), (.bool (.icmp .neq (.var 12) (.var 24))), (.bool (.icmp .neq (.var 12) (.var 24))), (.int .i64 (.var 11)), (.int .i64 (.var 23)), (.bool (.icmp .neq (.var 11) (.var 23))), (.bool (.icmp .neq (.var 11) (.var 23))), (.bool (.icmp .neq (.var 11) (.var 23))), (.agg [(.strn (.var 1)), (.int .i64 (.var 2)), (.int .i64 (.var 3)), (.int .i64 (.var 4)), (.int .i64 (.var 5)), (.int .i64 (.var 6)), (.int .i64 (.var 7)), (.int .i64 (.var 8)), (.int .i64 (.var 9)), (.int .i64 (.var 10))]), (.agg [(.strn (.var 13)), (.int .i64 (.var 14)), (.int .i64 (.var 15)), (.int .i64 (.var 16)), (.int .i64 (.var 17)), (.int .i64 (.var 18)), (.int .i64 (.var 19)), (.int .i64 (.var 20)), (.int .i64 (.var 21)), (.int .i64 (.var 22))]), (.bool (.not (.and (.icmp .eql (.bin .maxI (.var 1) (.lit 0)) (.bin .maxI (.var 13) (.lit 0))) (.and (.icmp .eql (.var 2) (.var 14)) (.and (.and (.icmp .eql (.var 3) (.var 15)) (.icmp .eql (.var 4) (.var 16))) (.and (.and (.icmp .eql (.var 5) (.var 17)) (.icmp .eql (.var 6) (.var 18))) (.and (.and (.icmp .eql (.var 7) (.var 19)) (.icmp .eql (.var 8) (.var 20))) (.and (.icmp .eql (.var 9) (.var 21)) (.icmp .eql (.var 10) (.var 22)))))))))), (.bool (.not (.and (.icmp .eql (.bin .maxI (.var 1) (.lit 0)) (.bin .maxI (.var 13) (.lit 0))) (.and (.icmp .eql (.var 2) (.var 14)) (.and (.and (.icmp .eql (.var 3) (.var 15)) (.icmp .eql (.var 4) (.var 16))) (.and (.and (.icmp .eql (.var 5) (.var 17)) (.icmp .eql (.var 6) (.var 18))) (.and (.and (.icmp .eql (.var 7) (.var 19)) (.icmp .eql (.var 8) (.var 20))) (.and (.icmp .eql (.var 9) (.var 21)) (.icmp .eql (.var 10) (.var 22)))))))))), (.any 66), (.any 67), (.any 68), (.any 69), (.any 70), (.any 71), (.any 72), (.any 73), (.any 74), (.any 75), (.any 76), (.any 77), (.any 78), (.any 79), (.any 80), (.any 81), (.any 82), (.any 83), (.any 84), (.any 85), (.any 86), (.any 87), (.any 88), (.any 89), (.any 90), (.any 91), (.any 92), (.any 93), (.any 94), (.any 95), (.any 96), (.any 97), (.any 98), (.any 99), (.any 100), (.any 101), (.any 102), (.any 103), (.any 104), (.any 105), (.any 106)], [(some ⟨[], 29, true, false, (some ⟨(.var 0), [.str, (.int .i64), (.int .i64), (.int .i64), (.int .i64), (.int .i64), (.int .i64), (.int .i64), (.int .i64), (.int .i64)], [(.avar 0), (.avar 1), (.avar 2), (.avar 3), (.avar 4), (.avar 5), (.avar 6), (.avar 7), (.avar 8), (.avar 9)]⟩)⟩), (some ⟨[], 29, false, false, none⟩), (some ⟨[], 29, false, true, (some ⟨(.var 0), [.str, (.int .i64), (.int .i64), (.int .i64), (.int .i64), (.int .i64), (.int .i64), (.int .i64), (.int .i64), (.int .i64)], [(.avar 0), (.avar 1), (.avar 2), (.avar 3), (.avar 4), (.avar 5), (.avar 6), (.avar 7), (.avar 8), (.avar 9)]⟩)⟩), (some ⟨[(.strn (.var 1)), (.int .i64 (.var 2)), (.int .i64 (.var 3)), (.int .i64 (.var 4)), (.int .i64 (.var 5)), (.int .i64 (.var 6)), (.int .i64 (.var 7)), (.int .i64 (.var 8)), (.int .i64 (.var 9)), (.int .i64 (.var 10))], 29, false, false, none⟩), (some ⟨[(.strn (.var 13)), (.int .i64 (.var 14)), (.int .i64 (.var 15)), (.int .i64 (.var 16)), (.int .i64 (.var 17)), (.int .i64 (.var 18)), (.int .i64 (.var 19)), (.int .i64 (.var 20)), (.int .i64 (.var 21)), (.int .i64 (.var 22))], 29, false, false, none⟩)], []) ⟨0, 0, 0⟩
                 (.ret ⟨[], [(.lit true)], []⟩ [])
                 (.ex (.ret, [(.asl 0 (.var 0)), (.tuple []), (.bool (.lit false)), (.any 3), (.ptr (some ⟨3, 0, none⟩)), (.int .i64 (.var 11)), (.int .i64 (.var 12)), (.ptr (some ⟨4, 0, none⟩)), (.int .i64 (.var 23)), (.int .i64 (.var 24)), (.any 10), (.bool (.var 0)), (.bool (.not (.var 0))), (.asl 0 (.var 0)), (.int .i64 (.var 0)), (.bool (.icmp .gtr (.var 0) (.lit 6))), (.bool (.icmp .gtr (.var 0) (.lit 6))), (.tuple []), (.tuple []), (.tuple []), (.bool (.lit false)), (.bool (.lit false)), (.asl 0 (.var 0)), (.int .i64 (.var 0)), (.bool (.icmp .gtr (.var 0) (.lit 22))), (.bool (.icmp .gtr (.var 0) (.lit 22))), (.any 26), (.any 27), (.any 28), (.any 29), (.any 30), (.any 31), (.any 32), (.any 33), (.any 34), (.any 35), (.any 36), (.any 37), (.any 38), (.tuple [(.agg [(.strn (.var 1)), (.int .i64 (.var 2)), (.int .i64 (.var 3)), (.int .i64 (.var 4)), (.int .i64 (.var 5)), (.int .i64 (.var 6)), (.int .i64 (.var 7)), (.int .i64 (.var 8)), (.int .i64 (.var 9)), (.int .i64 (.var 10))]), (.int .i64 (.var 11)), (.int .i64 (.var 12))]), (.slice (some ⟨1, 0, none⟩) 0 0), (.asl 0 (.var 0)), (.asl 2 (.var 0)), (.tuple [(.agg [(.strn (.var 1)), (.int .i64 (.var 2)), (.int .i64 (.var 3)), (.int .i64 (.var 4)), (.int .i64 (.var 5)), (.int .i64 (.var 6)), (.int .i64 (.var 7)), (.int .i64 (.var 8)), (.int .i64 (.var 9)), (.int .i64 (.var 10))]), (.int .i64 (.var 11)), (.int .i64 (.var 12))]), (.agg [(.strn (.var 1)), (.int .i64 (.var 2)), (.int .i64 (.var 3)), (.int .i64 (.var 4)), (.int .i64 (.var 5)), (.int .i64 (.var 6)), (.int .i64 (.var 7)), (.int .i64 (.var 8)), (.int .i64 (.var 9)), (.int .i64 (.var 10))]), (.int .i64 (.var 11)), (.int .i64 (.var 12)), (.tuple [(.agg [(.strn (.var 13)), (.int .i64 (.var 14)), (.int .i64 (.var 15)), (.int .i64 (.var 16)), (.int .i64 (.var 17)), (.int .i64 (.var 18)), (.int .i64 (.var 19)), (.int .i64 (.var 20)), (.int .i64 (.var 21)), (.int .i64 (.var 22))]), (.int .i64 (.var 23)), (.int .i64 (.var 24))]), (.asl 0 (.var 0)), (.tuple [(.agg [(.strn (.var 13)), (.int .i64 (.var 14)), (.int .i64 (.var 15)), (.int .i64 (.var 16)), (.int .i64 (.var 17)), (.int .i64 (.var 18)), (.int .i64 (.var 19)), (.int .i64 (.var 20)), (.int .i64 (.var 21)), (.int .i64 (.var 22))]), (.int .i64 (.var 23)), (.int .i64 (.var 24))]), (.agg [(.strn (.var 13)), (.int .i64 (.var 14)), (.int .i64 (.var 15)), (.int .i64 (.var 16)), (.int .i64 (.var 17)), (.int .i64 (.var 18)), (.int .i64 (.var 19)), (.int .i64 (.var 20)), (.int .i64 (.var 21)), (.int .i64 (.var 22))]), (.int .i64 (.var 23)), (.int .i64 (.var 24)), (.int .i64 (.var 12)), (.int .i64 (.var 24)), (.bool (.icmp .neq (.var 12) (.var 24))), (.bool (.icmp .neq (.var 12) (.var 24))), (.int .i64 (.var 11)), (.int .i64 (.var 23)), (.bool (.icmp .neq (.var 11) (.var 23))), (.bool (.icmp .neq (.var 11) (.var 23))), (.bool (.icmp .neq (.var 11) (.var 23))), (.agg [(.strn (.var 1)), (.int .i64 (.var 2)), (.int .i64 (.var 3)), (.int .i64 (.var 4)), (.int .i64 (.var 5)), (.int .i64 (.var 6)), (.int .i64 (.var 7)), (.int .i64 (.var 8)), (.int .i64 (.var 9)), (.int .i64 (.var 10))]), (.agg [(.strn (.var 13)), (.int .i64 (.var 14)), (.int .i64 (.var 15)), (.int .i64 (.var 16)), (.int .i64 (.var 17)), (.int .i64 (.var 18)), (.int .i64 (.var 19)), (.int .i64 (.var 20)), (.int .i64 (.var 21)), (.int .i64 (.var 22))]), (.bool (.not (.and (.icmp .eql (.bin .maxI (.var 1) (.lit 0)) (.bin .maxI (.var 13) (.lit 0))) (.and (.icmp .eql (.var 2) (.var 14)) (.and (.and (.icmp .eql (.var 3) (.var 15)) (.icmp .eql (.var 4) (.var 16))) (.and (.and (.icmp .eql (.var 5) (.var 17)) (.icmp .eql (.var 6) (.var 18))) (.and (.and (.icmp .eql (.var 7) (.var 19)) (.icmp .eql (.var 8) (.var 20))) (.and (.icmp .eql (.var 9) (.var 21)) (.icmp .eql (.var 10) (.var 22)))))))))), (.bool (.not (.and (.icmp .eql (.bin .maxI (.var 1) (.lit 0)) (.bin .maxI (.var 13) (.lit 0))) (.and (.icmp .eql (.var 2) (.var 14)) (.and (.and (.icmp .eql (.var 3) (.var 15)) (.icmp .eql (.var 4) (.var 16))) (.and (.and (.icmp .eql (.var 5) (.var 17)) (.icmp .eql (.var 6) (.var 18))) (.and (.and (.icmp .eql (.var 7) (.var 19)) (.icmp .eql (.var 8) (.var 20))) (.and (.icmp .eql (.var 9) (.var 21)) (.icmp .eql (.var 10) (.var 22)))))))))), (.any 66), (.any 67), (.any 68), (.any 69), (.any 70), (.any 71), (.any 72), (.any 73), (.any 74), (.any 75), (.any 76), (.any 77), (.any 78), (.any 79), (.any 80), (.any 81), (.any 82), (.any 83), (.any 84), (.any 85), (.any 86), (.any 87), (.any 88), (.any 89), (.any 90), (.any 91), (.any 92), (.any 93), (.any 94), (.any 95), (.any 96), (.any 97), (.any 98), (.any 99), (.any 100), (.any 101), (.any 102), (.any 103), (.any 104), (.any 105), (.any 106)], [(some ⟨[], 29, true, false, (some ⟨(.var 0), [.str, (.int .i64), (.int .i64), (.int .i64), (.int .i64), (.int .i64), (.int .i64), (.int .i64), (.int .i64), (.int .i64)], [(.avar 0), (.avar 1), (.avar 2), (.avar 3), (.avar 4), (.avar 5), (.avar 6), (.avar 7), (.avar 8), (.avar 9)]⟩)⟩), (some ⟨[], 29, false, false, none⟩), (some ⟨[], 29, false, true, (some ⟨(.var 0), [.str, (.int .i64), (.int .i64), (.int .i64), (.int .i64), (.int .i64), (.int .i64), (.int .i64), (.int .i64), (.int .i64)], [(.avar 0), (.avar 1), (.avar 2), (.avar 3), (.avar 4), (.avar 5), (.avar 6), (.avar 7), (.avar 8), (.avar 9)]⟩)⟩), (some ⟨[(.strn (.var 1)), (.int .i64 (.var 2)), (.int .i64 (.var 3)), (.int .i64 (.var 4)), (.int .i64 (.var 5)), (.int .i64 (.var 6)), (.int .i64 (.var 7)), (.int .i64 (.var 8)), (.int .i64 (.var 9)), (.int .i64 (.var 10))], 29, false, false, none⟩), (some ⟨[(.strn (.var 13)), (.int .i64 (.var 14)), (.int .i64 (.var 15)), (.int .i64 (.var 16)), (.int .i64 (.var 17)), (.int .i64 (.var 18)), (.int .i64 (.var 19)), (.int .i64 (.var 20)), (.int .i64 (.var 21)), (.int .i64 (.var 22))], 29, false, false, none⟩)], []) ⟨0, 0, 0⟩
                 (.ret ⟨[], [(.lit false)], []⟩ [])
                 .nil)))
                (.ret ⟨[], [(.lit false)], []⟩ []))
               (.ret ⟨[], [(.lit false)], []⟩ []))
              (.ret ⟨[], [(.lit false)], []⟩ []))
             (.ret ⟨[], [(.lit false)], []⟩ []))
            (.ret ⟨[], [(.lit false)], []⟩ []))
           (.ret ⟨[], [(.lit false)], []⟩ []))
          (.ret ⟨[], [(.lit false)], []⟩ []))
         (.ret ⟨[], [(.lit false)], []⟩ []))
        (.ret ⟨[], [(.lit false)], []⟩ []))
       (.ret ⟨[], [(.lit false)], []⟩ []))
      (.ret ⟨[], [(.lit false)], []⟩ []))
     (.ret ⟨[], [(.lit false)], []⟩ []))))
    .nil)))
   (.ite (.icmp .leq (.var 0) (.lit 20))
    (.ret ⟨[], [(.lit true)], []⟩ [])
    (.ite (.icmp .leq (.var 0) (.lit 22))
     (.loop ⟨3, [0, 1, 0, 1, 1, 1], [(.asl 0 (.var 0)), (.tuple []), (.bool (.lit false)), (.int .i64 (.lit 0)), (.tuple []), (.tuple []), (.tuple []), (.tuple []), (.tuple []), (.tuple []), (.tuple []), (.bool (.var 0)), (.bool (.not (.var 0))), (.asl 0 (.var 0)), (.int .i64 (.var 0)), (.bool (.icmp .gtr (.var 0) (.lit 6))), (.bool (.icmp .gtr (.var 0) (.lit 6))), (.asl 0 (.var 0)), (.int .i64 (.var 0)), (.bool (.icmp .leq (.var 0) (.lit 20))), (.bool (.icmp .leq (.var 0) (.lit 20))), (.bool (.icmp .leq (.var 0) (.lit 20))), (.asl 0 (.var 0)), (.int .i64 (.var 0)), (.bool (.icmp .gtr (.var 0) (.lit 22))), (.bool (.icmp .gtr (.var 0) (.lit 22))), (.tuple []), (.tuple []), (.tuple []), (.tuple []), (.tuple []), (.tuple []), (.tuple []), (.tuple []), (.tuple []), (.tuple []), (.tuple []), (.tuple []), (.tuple []), (.tuple []), (.tuple []), (.tuple []), (.tuple []), (.tuple []), (.tuple []), (.tuple []), (.tuple []), (.tuple []), (.tuple []), (.tuple []), (.tuple []), (.tuple []), (.tuple []), (.tuple []), (.tuple []), (.tuple []), (.tuple []), (.tuple []), (.tuple []), (.tuple []), (.tuple []), (.tuple []), (.tuple []), (.tuple []), (.tuple []), (.tuple []), (.tuple []), (.tuple []), (.tuple []), (.tuple []), (.tuple []), (.tuple []), (.tuple []), (.tuple []), (.tuple []), (.tuple []), (.tuple []), (.tuple []), (.tuple []), (.tuple []), (.tuple []), (.tuple []), (.tuple []), (.tuple []), (.tuple []), (.tuple []), (.tuple []), (.tuple []), (.tuple []), (.tuple []), (.tuple []), (.tuple []), (.tuple []), (.tuple []), (.tuple []), (.tuple []), (.tuple []), (.tuple []), (.tuple []), (.tuple []), (.tuple []), (.tuple []), (.tuple []), (.tuple []), (.tuple []), (.tuple []), (.tuple [])], [(some ⟨[], 29, true, false, (some ⟨(.var 0), [.str, (.int .i64), (.int .i64), (.int .i64), (.int .i64), (.int .i64), (.int .i64), (.int .i64), (.int .i64), (.int .i64)], [(.avar 0), (.avar 1), (.avar 2), (.avar 3), (.avar 4), (.avar 5), (.avar 6), (.avar 7), (.avar 8), (.avar 9)]⟩)⟩)], [], [(.asl 0 (.var 0)), (.tuple []), (.bool (.lit false)), (.int .i64 (.var 1)), (.tuple []), (.tuple []), (.tuple []), (.tuple []), (.tuple []), (.tuple []), (.tuple []), (.bool (.var 0)), (.bool (.not (.var 0))), (.asl 0 (.var 0)), (.int .i64 (.var 0)), (.bool (.icmp .gtr (.var 0) (.lit 6))), (.bool (.icmp .gtr (.var 0) (.lit 6))), (.asl 0 (.var 0)), (.int .i64 (.var 0)), (.bool (.icmp .leq (.var 0) (.lit 20))), (.bool (.icmp .leq (.var 0) (.lit 20))), (.bool (.icmp .leq (.var 0) (.lit 20))), (.asl 0 (.var 0)), (.int .i64 (.var 0)), (.bool (.icmp .gtr (.var 0) (.lit 22))), (.bool (.icmp .gtr (.var 0) (.lit 22))), (.any 26), (.any 27), (.any 28), (.any 29), (.any 30), (.any 31), (.any 32), (.any 33), (.any 34), (.any 35), (.any 36), (.any 37), (.any 38), (.tuple []), (.tuple []), (.tuple []), (.tuple []), (.tuple []), (.tuple []), (.tuple []), (.tuple []), (.tuple []), (.tuple []), (.tuple []), (.tuple []), (.tuple []), (.tuple []), (.tuple []), (.tuple []), (.tuple []), (.tuple []), (.tuple []), (.tuple []), (.tuple []), (.tuple []), (.tuple []), (.tuple []), (.tuple []), (.tuple []), (.tuple []), (.tuple []), (.tuple []), (.tuple []), (.tuple []), (.tuple []), (.tuple []), (.tuple []), (.tuple []), (.tuple []), (.tuple []), (.tuple []), (.tuple []), (.tuple []), (.tuple []), (.tuple []), (.tuple []), (.tuple []), (.tuple []), (.tuple []), (.tuple []), (.tuple []), (.tuple []), (.tuple []), (.tuple []), (.tuple []), (.tuple []), (.tuple []), (.tuple []), (.tuple []), (.tuple []), (.tuple []), (.tuple []), (.tuple []), (.tuple []), (.tuple []), (.tuple []), (.tuple []), (.tuple []), (.tuple []), (.tuple []), (.tuple [])], [(some ⟨[], 29, true, false, (some ⟨(.var 0), [.str, (.int .i64), (.int .i64), (.int .i64), (.int .i64), (.int .i64), (.int .i64), (.int .i64), (.int .i64), (.int .i64)], [(.avar 0), (.avar 1), (.avar 2), (.avar 3), (.avar 4), (.avar 5), (.avar 6), (.avar 7), (.avar 8), (.avar 9)]⟩)⟩)], [], ⟨1, 0, 0⟩, ⟨[(.lit 0)], [], []⟩, []⟩
      (.rng 1 0 22 (.ite (.icmp .leq (.var 0) (.var 1))
       (.out 1 ⟨[], [], []⟩ [])
       (.ite (.icmp .leq (.bin .sLen (.sel (.avar 0) (.var 1)) (.lit 0)) (.lit 30))
        (.next ⟨[(.bin .addI (.var 1) (.lit 1))], [], []⟩ [])
        (.out 0 ⟨[], [], []⟩ []))))
      (.ex (.ret, [(.asl 0 (.var 0)), (.tuple []), (.bool (.lit true)), (.any 3), (.tuple []), (.tuple []), (.tuple []), (.tuple []), (.tuple []), (.tuple []), (.tuple []), (.bool (.var 0)), (.bool (.not (.var 0))), (.asl 0 (.var 0)), (.int .i64 (.var 0)), (.bool (.icmp .gtr (.var 0) (.lit 6))), (.bool (.icmp .gtr (.var 0) (.lit 6))), (.asl 0 (.var 0)), (.int .i64 (.var 0)), (.bool (.icmp .leq (.var 0) (.lit 20))), (.bool (.icmp .leq (.var 0) (.lit 20))), (.bool (.icmp .leq (.var 0) (.lit 20))), (.asl 0 (.var 0)), (.int .i64 (.var 0)), (.bool (.icmp .gtr (.var 0) (.lit 22))), (.bool (.icmp .gtr (.var 0) (.lit 22))), (.any 26), (.any 27), (.any 28), (.any 29), (.any 30), (.any 31), (.any 32), (.any 33), (.any 34), (.any 35), (.any 36), (.any 37), (.any 38), (.tuple []), (.tuple []), (.tuple []), (.tuple []), (.tuple []), (.tuple []), (.tuple []), (.tuple []), (.tuple []), (.tuple []), (.tuple []), (.tuple []), (.tuple []), (.tuple []), (.tuple []), (.tuple []), (.tuple []), (.tuple []), (.tuple []), (.tuple []), (.tuple []), (.tuple []), (.tuple []), (.tuple []), (.tuple []), (.tuple []), (.tuple []), (.tuple []), (.tuple []), (.tuple []), (.tuple []), (.tuple []), (.tuple []), (.tuple []), (.tuple []), (.tuple []), (.tuple []), (.tuple []), (.tuple []), (.tuple []), (.tuple []), (.tuple []), (.tuple []), (.tuple []), (.tuple []), (.tuple []), (.tuple []), (.tuple []), (.tuple []), (.tuple []), (.tuple []), (.tuple []), (.tuple []), (.tuple []), (.tuple []), (.tuple []), (.tuple []), (.tuple []), (.tuple []), (.tuple []), (.tuple []), (.tuple []), (.tuple []), (.tuple []), (.tuple []), (.tuple []), (.tuple []), (.tuple [])], [(some ⟨[], 29, true, false, (some ⟨(.var 0), [.str, (.int .i64), (.int .i64), (.int .i64), (.int .i64), (.int .i64), (.int .i64), (.int .i64), (.int .i64), (.int .i64)], [(.avar 0), (.avar 1), (.avar 2), (.avar 3), (.avar 4), (.avar 5), (.avar 6), (.avar 7), (.avar 8), (.avar 9)]⟩)⟩)], []) ⟨0, 0, 0⟩
      (.ret ⟨[], [(.lit true)], []⟩ [])
      (.ex ((.exit 0), [(.asl 0 (.var 0)), (.tuple []), (.bool (.lit false)), (.any 3), (.tuple []), (.tuple []), (.tuple []), (.tuple []), (.tuple []), (.tuple []), (.tuple []), (.bool (.var 0)), (.bool (.not (.var 0))), (.asl 0 (.var 0)), (.int .i64 (.var 0)), (.bool (.icmp .gtr (.var 0) (.lit 6))), (.bool (.icmp .gtr (.var 0) (.lit 6))), (.asl 0 (.var 0)), (.int .i64 (.var 0)), (.bool (.icmp .leq (.var 0) (.lit 20))), (.bool (.icmp .leq (.var 0) (.lit 20))), (.bool (.icmp .leq (.var 0) (.lit 20))), (.asl 0 (.var 0)), (.int .i64 (.var 0)), (.bool (.icmp .gtr (.var 0) (.lit 22))), (.bool (.icmp .gtr (.var 0) (.lit 22))), (.any 26), (.any 27), (.any 28), (.any 29), (.any 30), (.any 31), (.any 32), (.any 33), (.any 34), (.any 35), (.any 36), (.any 37), (.any 38), (.tuple []), (.tuple []), (.tuple []), (.tuple []), (.tuple []), (.tuple []), (.tuple []), (.tuple []), (.tuple []), (.tuple []), (.tuple []), (.tuple []), (.tuple []), (.tuple []), (.tuple []), (.tuple []), (.tuple []), (.tuple []), (.tuple []), (.tuple []), (.tuple []), (.tuple []), (.tuple []), (.tuple []), (.tuple []), (.tuple []), (.tuple []), (.tuple []), (.tuple []), (.tuple []), (.tuple []), (.tuple []), (.tuple []), (.tuple []), (.tuple []), (.tuple []), (.tuple []), (.tuple []), (.tuple []), (.tuple []), (.tuple []), (.tuple []), (.tuple []), (.tuple []), (.tuple []), (.tuple []), (.tuple []), (.tuple []), (.tuple []), (.tuple []), (.tuple []), (.tuple []), (.tuple []), (.tuple []), (.tuple []), (.tuple []), (.tuple []), (.tuple []), (.tuple []), (.tuple []), (.tuple []), (.tuple []), (.tuple []), (.tuple []), (.tuple []), (.tuple []), (.tuple []), (.tuple [])], [(some ⟨[], 29, true, false, (some ⟨(.var 0), [.str, (.int .i64), (.int .i64), (.int .i64), (.int .i64), (.int .i64), (.int .i64), (.int .i64), (.int .i64), (.int .i64)], [(.avar 0), (.avar 1), (.avar 2), (.avar 3), (.avar 4), (.avar 5), (.avar 6), (.avar 7), (.avar 8), (.avar 9)]⟩)⟩)], []) ⟨0, 0, 0⟩
      (.call meter_Averaged_s ⟨[(.var 0)], [], [(.avar 0), (.avar 1), (.avar 2), (.avar 3), (.avar 4), (.avar 5), (.avar 6), (.avar 7), (.avar 8), (.avar 9)]⟩ ⟨[(.var 0), (.var 1), (.var 2), (.var 3), (.var 4), (.var 5), (.var 6), (.var 7), (.var 8), (.var 9), (.var 10), (.var 11), (.var 12)], [], [(.avar 0), (.avar 1), (.avar 2), (.avar 3), (.avar 4), (.avar 5), (.avar 6), (.avar 7), (.avar 8), (.avar 9)]⟩ ⟨7, [(.asl 2 (.var 0))], [2], [none, none, (some ⟨[], 29, false, true, (some ⟨(.var 0), [.str, (.int .i64), (.int .i64), (.int .i64), (.int .i64), (.int .i64), (.int .i64), (.int .i64), (.int .i64), (.int .i64)], [(.avar 0), (.avar 1), (.avar 2), (.avar 3), (.avar 4), (.avar 5), (.avar 6), (.avar 7), (.avar 8), (.avar 9)]⟩)⟩)], (.tuple [(.agg [(.strn (.var 1)), (.int .i64 (.var 2)), (.int .i64 (.var 3)), (.int .i64 (.var 4)), (.int .i64 (.var 5)), (.int .i64 (.var 6)), (.int .i64 (.var 7)), (.int .i64 (.var 8)), (.int .i64 (.var 9)), (.int .i64 (.var 10))]), (.int .i64 (.var 11)), (.int .i64 (.var 12))]), []⟩
       (.call etalonref06_Averaged_s ⟨[(.var 0)], [], [(.avar 0), (.avar 1), (.avar 2), (.avar 3), (.avar 4), (.avar 5), (.avar 6), (.avar 7), (.avar 8), (.avar 9)]⟩ ⟨[(.var 0), (.var 13), (.var 14), (.var 15), (.var 16), (.var 17), (.var 18), (.var 19), (.var 20), (.var 21), (.var 22), (.var 23), (.var 24)], [], [(.avar 0), (.avar 1), (.avar 2), (.avar 3), (.avar 4), (.avar 5), (.avar 6), (.avar 7), (.avar 8), (.avar 9)]⟩ ⟨8, [(.asl 0 (.var 0))], [0], [(some ⟨[], 29, true, false, (some ⟨(.var 0), [.str, (.int .i64), (.int .i64), (.int .i64), (.int .i64), (.int .i64), (.int .i64), (.int .i64), (.int .i64), (.int .i64)], [(.avar 0), (.avar 1), (.avar 2), (.avar 3), (.avar 4), (.avar 5), (.avar 6), (.avar 7), (.avar 8), (.avar 9)]⟩)⟩), none, none, none], (.tuple [(.agg [(.strn (.var 13)), (.int .i64 (.var 14)), (.int .i64 (.var 15)), (.int .i64 (.var 16)), (.int .i64 (.var 17)), (.int .i64 (.var 18)), (.int .i64 (.var 19)), (.int .i64 (.var 20)), (.int .i64 (.var 21)), (.int .i64 (.var 22))]), (.int .i64 (.var 23)), (.int .i64 (.var 24))]), []⟩
       (.ite (.icmp .eql (.var 12) (.var 24))
       (.ite (.icmp .eql (.var 11) (.var 23))
        (.ite (.icmp .eql (.bin .maxI (.var 1) (.lit 0)) (.bin .maxI (.var 13) (.lit 0)))
         (.ite (.icmp .eql (.var 2) (.var 14))
          (.ite (.icmp .eql (.var 3) (.var 15))
           (.ite (.icmp .eql (.var 4) (.var 16))
            (.ite (.icmp .eql (.var 5) (.var 17))
             (.ite (.icmp .eql (.var 6) (.var 18))
              (.ite (.icmp .eql (.var 7) (.var 19))
               (.ite (.icmp .eql (.var 8) (.var 20))
                (.ite (.icmp .eql (.var 9) (.var 21))
                 (.ite (.icmp .eql (.var 10) (.var 22))
                  (.loop ⟨3, [0, 1, 0, 1, 1, 1, 1, 1, 1, 1], [(.asl 0 (.var 0)), (.tuple []), (.bool (.lit false)), (.any 3), (.ptr (some ⟨3, 0, none⟩)), (.int .i64 (.var 11)), (.int .i64 (.var 12)), (.ptr (some ⟨4, 0, none⟩)), (.int .i64 (.var 23)), (.int .i64 (.var 24)), (.int .i64 (.lit 0)), (.bool (.var 0)), (.bool (.not (.var 0))), (.asl 0 (.var 0)), (.int .i64 (.var 0)), (.bool (.icmp .gtr (.var 0) (.lit 6))), (.bool (.icmp .gtr (.var 0) (.lit 6))), (.asl 0 (.var 0)), (.int .i64 (.var 0)), (.bool (.icmp .leq (.var 0) (.lit 20))), (.bool (.icmp .leq (.var 0) (.lit 20))), (.bool (.icmp .leq (.var 0) (.lit 20))), (.asl 0 (.var 0)), (.int .i64 (.var 0)), (.bool (.icmp .gtr (.var 0) (.lit 22))), (.bool (.icmp .gtr (.var 0) (.lit 22))), (.any 26), (.any 27), (.any 28), (.any 29), (.any 30), (.any 31), (.any 32), (.any 33), (.any 34), (.any 35), (.any 36), (.any 37), (.any 38), (.tuple [(.agg [(.strn (.var 1)), (.int .i64 (.var 2)), (.int .i64 (.var 3)), (.int .i64 (.var 4)), (.int .i64 (.var 5)), (.int .i64 (.var 6)), (.int .i64 (.var 7)), (.int .i64 (.var 8)), (.int .i64 (.var 9)), (.int .i64 (.var 10))]), (.int .i64 (.var 11)), (.int .i64 (.var 12))]), (.slice (some ⟨1, 0, none⟩) 0 0), (.asl 0 (.var 0)), (.asl 2 (.var 0)), (.tuple [(.agg [(.strn (.var 1)), (.int .i64 (.var 2)), (.int .i64 (.var 3)), (.int .i64 (.var 4)), (.int .i64 (.var 5)), (.int .i64 (.var 6)), (.int .i64 (.var 7)), (.int .i64 (.var 8)), (.int .i64 (.var 9)), (.int .i64 (.var 10))]), (.int .i64 (.var 11)), (.int .i64 (.var 12))]), (.agg [(.strn (.var 1)), (.int .i64 (.var 2)), (.int .i64 (.var 3)), (.int .i64 (.var 4)), (.int .i64 (.var 5)), (.int .i64 (.var 6)), (.int .i64 (.var 7)), (.int .i64 (.var 8)), (.int .i64 (.var 9)), (.int .i64 (.var 10))]), (.int .i64 (.var 11)), (.int .i64 (.var 12)), (.tuple [(.agg [(.strn (.var 13)), (.int .i64 (.var 14)), (.int .i64 (.var 15)), (.int .i64 (.var 16)), (.int .i64 (.var 17)), (.int .i64 (.var 18)), (.int .i64 (.var 19)), (.int .i64 (.var 20)), (.int .i64 (.var 21)), (.int .i64 (.var 22))]), (.int .i64 (.var 23)), (.int .i64 (.var 24))]), (.asl 0 (.var 0)), (.tuple [(.agg [(.strn (.var 13)), (.int .i64 (.var 14)), (.int .i64 (.var 15)), (.int .i64 (.var 16)), (.int .i64 (.var 17)), (.int .i64 (.var 18)), (.int .i64 (.var 19)), (.int .i64 (.var 20)), (.int .i64 (.var 21)), (.int .i64 (.var 22))]), (.int .i64 (.var 23)), (.int .i64 (.var 24))]), (.agg [(.strn (.var 13)), (.int .i64 (.var 14)), (.int .i64 (.var 15)), (.int .i64 (.var 16)), (.int .i64 (.var 17)), (.int .i64 (.var 18)), (.int .i64 (.var 19)), (.int .i64 (.var 20)), (.int .i64 (.var 21)), (.int .i64 (.var 22))]), (.int .i64 (.var 23)), (.int .i64 (.var 24)), (.int .i64 (.var 12)), (.int .i64 (.var 24)), (.bool (.icmp .neq (.var 12) (.var 24))), (.bool (.icmp .neq (.var 12) (.var 24))), (.int .i64 (.var 11)), (.int .i64 (.var 23)), (.bool (.icmp .neq (.var 11) (.var 23))), (.bool (.icmp .neq (.var 11) (.var 23))), (.bool (.icmp .neq (.var 11) (.var 23))), (.agg [(.strn (.var 1)), (.int .i64 (.var 2)), (.int .i64 (.var 3)), (.int .i64 (.var 4)), (.int .i64 (.var 5)), (.int .i64 (.var 6)), (.int .i64 (.var 7)), (.int .i64 (.var 8)), (.int .i64 (.var 9)), (.int .i64 (.var 10))]), (.agg [(.strn (.var 13)), (.int .i64 (.var 14)), (.int .i64 (.var 15)), (.int .i64 (.var 16)), (.int .i64 (.var 17)), (.int .i64 (.var 18)), (.int .i64 (.var 19)), (.int .i64 (.var 20)), (.int .i64 (.var 21)), (.int .i64 (.var 22))]), (.bool (.not (.and (.icmp .eql (.bin .maxI (.var 1) (.lit 0)) (.bin .maxI (.var 13) (.lit 0))) (.and (.icmp .eql (.var 2) (.var 14)) (.and (.and (.icmp .eql (.var 3) (.var 15)) (.icmp .eql (.var 4) (.var 16))) (.and (.and (.icmp .eql (.var 5) (.var 17)) (.icmp .eql (.var 6) (.var 18))) (.and (.and (.icmp .eql (.var 7) (.var 19)) (.icmp .eql (.var 8) (.var 20))) (.and (.icmp .eql (.var 9) (.var 21)) (.icmp .eql (.var 10) (.var 22)))))))))), (.bool (.not (.and (.icmp .eql (.bin .maxI (.var 1) (.lit 0)) (.bin .maxI (.var 13) (.lit 0))) (.and (.icmp .eql (.var 2) (.var 14)) (.and (.and (.icmp .eql (.var 3) (.var 15)) (.icmp .eql (.var 4) (.var 16))) (.and (.and (.icmp .eql (.var 5) (.var 17)) (.icmp .eql (.var 6) (.var 18))) (.and (.and (.icmp .eql (.var 7) (.var 19)) (.icmp .eql (.var 8) (.var 20))) (.and (.icmp .eql (.var 9) (.var 21)) (.icmp .eql (.var 10) (.var 22)))))))))), (.tuple []), (.tuple []), (.tuple []), (.tuple []), (.tuple []), (.tuple []), (.tuple []), (.tuple []), (.tuple []), (.tuple []), (.tuple []), (.tuple []), (.tuple []), (.tuple []), (.tuple []), (.tuple []), (.tuple []), (.tuple []), (.tuple []), (.tuple []), (.tuple []), (.tuple []), (.tuple []), (.tuple []), (.tuple []), (.tuple []), (.tuple []), (.tuple []), (.tuple []), (.tuple []), (.tuple []), (.tuple []), (.tuple []), (.tuple []), (.tuple []), (.tuple []), (.tuple []), (.tuple []), (.tuple []), (.tuple []), (.tuple [])], [(some ⟨[], 29, true, false, (some ⟨(.var 0), [.str, (.int .i64), (.int .i64), (.int .i64), (.int .i64), (.int .i64), (.int .i64), (.int .i64), (.int .i64), (.int .i64)], [(.avar 0), (.avar 1), (.avar 2), (.avar 3), (.avar 4), (.avar 5), (.avar 6), (.avar 7), (.avar 8), (.avar 9)]⟩)⟩), (some ⟨[], 29, false, false, none⟩), (some ⟨[], 29, false, true, (some ⟨(.var 0), [.str, (.int .i64), (.int .i64), (.int .i64), (.int .i64), (.int .i64), (.int .i64), (.int .i64), (.int .i64), (.int .i64)], [(.avar 0), (.avar 1), (.avar 2), (.avar 3), (.avar 4), (.avar 5), (.avar 6), (.avar 7), (.avar 8), (.avar 9)]⟩)⟩), (some ⟨[(.strn (.var 1)), (.int .i64 (.var 2)), (.int .i64 (.var 3)), (.int .i64 (.var 4)), (.int .i64 (.var 5)), (.int .i64 (.var 6)), (.int .i64 (.var 7)), (.int .i64 (.var 8)), (.int .i64 (.var 9)), (.int .i64 (.var 10))], 29, false, false, none⟩), (some ⟨[(.strn (.var 13)), (.int .i64 (.var 14)), (.int .i64 (.var 15)), (.int .i64 (.var 16)), (.int .i64 (.var 17)), (.int .i64 (.var 18)), (.int .i64 (.var 19)), (.int .i64 (.var 20)), (.int .i64 (.var 21)), (.int .i64 (.var 22))], 29, false, false, none⟩)], [], [(.asl 0 (.var 0)), (.tuple []), (.bool (.lit false)), (.any 3), (.ptr (some ⟨3, 0, none⟩)), (.int .i64 (.var 11)), (.int .i64 (.var 12)), (.ptr (some ⟨4, 0, none⟩)), (.int .i64 (.var 23)), (.int .i64 (.var 24)), (.int .i64 (.var 25)), (.bool (.var 0)), (.bool (.not (.var 0))), (.asl 0 (.var 0)), (.int .i64 (.var 0)), (.bool (.icmp .gtr (.var 0) (.lit 6))), (.bool (.icmp .gtr (.var 0) (.lit 6))), (.asl 0 (.var 0)), (.int .i64 (.var 0)), (.bool (.icmp .leq (.var 0) (.lit 20))), (.bool (.icmp .leq (.var 0) (.lit 20))), (.bool (.icmp .leq (.var 0) (.lit 20))), (.asl 0 (.var 0)), (.int .i64 (.var 0)), (.bool (.icmp .gtr (.var 0) (.lit 22))), (.bool (.icmp .gtr (.var 0) (.lit 22))), (.any 26), (.any 27), (.any 28), (.any 29), (.any 30), (.any 31), (.any 32), (.any 33), (.any 34), (.any 35), (.any 36), (.any 37), (.any 38), (.tuple [(.agg [(.strn (.var 1)), (.int .i64 (.var 2)), (.int .i64 (.var 3)), (.int .i64 (.var 4)), (.int .i64 (.var 5)), (.int .i64 (.var 6)), (.int .i64 (.var 7)), (.int .i64 (.var 8)), (.int .i64 (.var 9)), (.int .i64 (.var 10))]), (.int .i64 (.var 11)), (.int .i64 (.var 12))]), (.slice (some ⟨1, 0, none⟩) 0 0), (.asl 0 (.var 0)), (.asl 2 (.var 0)), (.tuple [(.agg [(.strn (.var 1)), (.int .i64 (.var 2)), (.int .i64 (.var 3)), (.int .i64 (.var 4)), (.int .i64 (.var 5)), (.int .i64 (.var 6)), (.int .i64 (.var 7)), (.int .i64 (.var 8)), (.int .i64 (.var 9)), (.int .i64 (.var 10))]), (.int .i64 (.var 11)), (.int .i64 (.var 12))]), (.agg [(.strn (.var 1)), (.int .i64 (.var 2)), (.int .i64 (.var 3)), (.int .i64 (.var 4)), (.int .i64 (.var 5)), (.int .i64 (.var 6)), (.int .i64 (.var 7)), (.int .i64 (.var 8)), (.int .i64 (.var 9)), (.int .i64 (.var 10))]), (.int .i64 (.var 11)), (.int .i64 (.var 12)), (.tuple [(.agg [(.strn (.var 13)), (.int .i64 (.var 14)), (.int .i64 (.var 15)), (.int .i64 (.var 16)), (.int .i64 (.var 17)), (.int .i64 (.var 18)), (.int .i64 (.var 19)), (.int .i64 (.var 20)), (.int .i64 (.var 21)), (.int .i64 (.var 22))]), (.int .i64 (.var 23)), (.int .i64 (.var 24))]), (.asl 0 (.var 0)), (.tuple [(.agg [(.strn (.var 13)), (.int .i64 (.var 14)), (.int .i64 (.var 15)), (.int .i64 (.var 16)), (.int .i64 (.var 17)), (.int .i64 (.var 18)), (.int .i64 (.var 19)), (.int .i64 (.var 20)), (.int .i64 (.var 21)), (.int .i64 (.var 22))]), (.int .i64 (.var 23)), (.int .i64 (.var 24))]), (.agg [(.strn (.var 13)), (.int .i64 (.var 14)), (.int .i64 (.var 15)), (.int .i64 (.var 16)), (.int .i64 (.var 17)), (.int .i64 (.var 18)), (.int .i64 (.var 19)), (.int .i64 (.var 20)), (.int .i64 (.var 21)), (.int .i64 (.var 22))]), (.int .i64 (.var 23)), (.int .i64 (.var 24)), (.int .i64 (.var 12)), (.int .i64 (.var 24)), (.bool (.icmp .neq (.var 12) (.var 24))), (.bool (.icmp .neq (.var 12) (.var 24))), (.int .i64 (.var 11)), (.int .i64 (.var 23)), (.bool (.icmp .neq (.var 11) (.var 23))), (.bool (.icmp .neq (.var 11) (.var 23))), (.bool (.icmp .neq (.var 11) (.var 23))), (.agg [(.strn (.var 1)), (.int .i64 (.var 2)), (.int .i64 (.var 3)), (.int .i64 (.var 4)), (.int .i64 (.var 5)), (.int .i64 (.var 6)), (.int .i64 (.var 7)), (.int .i64 (.var 8)), (.int .i64 (.var 9)), (.int .i64 (.var 10))]), (.agg [(.strn (.var 13)), (.int .i64 (.var 14)), (.int .i64 (.var 15)), (.int .i64 (.var 16)), (.int .i64 (.var 17)), (.int .i64 (.var 18)), (.int .i64 (.var 19)), (.int .i64 (.var 20)), (.int .i64 (.var 21)), (.int .i64 (.var 22))]), (.bool (.not (.and (.icmp .eql (.bin .maxI (.var 1) (.lit 0)) (.bin .maxI (.var 13) (.lit 0))) (.and (.icmp .eql (.var 2) (.var 14)) (.and (.and (.icmp .eql (.var 3) (.var 15)) (.icmp .eql (.var 4) (.var 16))) (.and (.and (.icmp .eql (.var 5) (.var 17)) (.icmp .eql (.var 6) (.var 18))) (.and (.and (.icmp .eql (.var 7) (.var 19)) (.icmp .eql (.var 8) (.var 20))) (.and (.icmp .eql (.var 9) (.var 21)) (.icmp .eql (.var 10) (.var 22)))))))))), (.bool (.not (.and (.icmp .eql (.bin .maxI (.var 1) (.lit 0)) (.bin .maxI (.var 13) (.lit 0))) (.and (.icmp .eql (.var 2) (.var 14)) (.and (.and (.icmp .eql (.var 3) (.var 15)) (.icmp .eql (.var 4) (.var 16))) (.and (.and (.icmp .eql (.var 5) (.var 17)) (.icmp .eql (.var 6) (.var 18))) (.and (.and (.icmp .eql (.var 7) (.var 19)) (.icmp .eql (.var 8) (.var 20))) (.and (.icmp .eql (.var 9) (.var 21)) (.icmp .eql (.var 10) (.var 22)))))))))), (.any 66), (.any 67), (.any 68), (.any 69), (.any 70), (.any 71), (.any 72), (.any 73), (.any 74), (.any 75), (.any 76), (.any 77), (.any 78), (.any 79), (.any 80), (.any 81), (.any 82), (.any 83), (.any 84), (.any 85), (.any 86), (.any 87), (.any 88), (.any 89), (.any 90), (.any 91), (.any 92), (.any 93), (.any 94), (.any 95), (.any 96), (.any 97), (.any 98), (.any 99), (.any 100), (.any 101), (.any 102), (.any 103), (.any 104), (.any 105), (.any 106)], [(some ⟨[], 29, true, false, (some ⟨(.var 0), [.str, (.int .i64), (.int .i64), (.int .i64), (.int .i64), (.int .i64), (.int .i64), (.int .i64), (.int .i64), (.int .i64)], [(.avar 0), (.avar 1), (.avar 2), (.avar 3), (.avar 4), (.avar 5), (.avar 6), (.avar 7), (.avar 8), (.avar 9)]⟩)⟩), (some ⟨[], 29, false, false, none⟩), (some ⟨[], 29, false, true, (some ⟨(.var 0), [.str, (.int .i64), (.int .i64), (.int .i64), (.int .i64), (.int .i64), (.int .i64), (.int .i64), (.int .i64), (.int .i64)], [(.avar 0), (.avar 1), (.avar 2), (.avar 3), (.avar 4), (.avar 5), (.avar 6), (.avar 7), (.avar 8), (.avar 9)]⟩)⟩), (some ⟨[(.strn (.var 1)), (.int .i64 (.var 2)), (.int .i64 (.var 3)), (.int .i64 (.var 4)), (.int .i64 (.var 5)), (.int .i64 (.var 6)), (.int .i64 (.var 7)), (.int .i64 (.var 8)), (.int .i64 (.var 9)), (.int .i64 (.var 10))], 29, false, false, none⟩), (some ⟨[(.strn (.var 13)), (.int .i64 (.var 14)), (.int .i64 (.var 15)), (.int .i64 (.var 16)), (.int .i64 (.var 17)), (.int .i64 (.var 18)), (.int .i64 (.var 19)), (.int .i64 (.var 20)), (.int .i64 (.var 21)), (.int .i64 (.var 22))], 29, false, false, none⟩)], [], ⟨1, 0, 0⟩, ⟨[(.lit 0)], [], []⟩, []⟩
                   (.rng 25 0 22 (.ite (.icmp .leq (.var 0) (.var 25))
                    (.out 0 ⟨[], [], []⟩ [])
                    (.ite (.icmp .eql (.var 24) (.lit 0))
                     (.call etalonlaw06_inside_s ⟨[(.var 5), (.var 6), (.sel (.avar 4) (.var 25)), (.sel (.avar 5) (.var 25))], [], []⟩ ⟨[(.var 5), (.var 6), (.sel (.avar 4) (.var 25)), (.sel (.avar 5) (.var 25))], [(.var 1)], []⟩ ⟨9, [(.agg [(.int .i64 (.var 5)), (.int .i64 (.var 6))]), (.agg [(.int .i64 (.sel (.avar 4) (.var 25))), (.int .i64 (.sel (.avar 5) (.var 25)))])], [], [none, none, none, none, none], (.bool (.var 1)), []⟩
                      (.ite (.var 1)
                      (.call etalonlaw06_inside_s ⟨[(.var 7), (.var 8), (.sel (.avar 6) (.var 25)), (.sel (.avar 7) (.var 25))], [], []⟩ ⟨[(.var 7), (.var 8), (.sel (.avar 6) (.var 25)), (.sel (.avar 7) (.var 25))], [(.var 2)], []⟩ ⟨9, [(.agg [(.int .i64 (.var 7)), (.int .i64 (.var 8))]), (.agg [(.int .i64 (.sel (.avar 6) (.var 25))), (.int .i64 (.sel (.avar 7) (.var 25)))])], [], [none, none, none, none, none], (.bool (.var 2)), []⟩
                       (.ite (.var 2)
                       (.call etalonlaw06_inside_s ⟨[(.var 9), (.var 10), (.sel (.avar 8) (.var 25)), (.sel (.avar 9) (.var 25))], [], []⟩ ⟨[(.var 9), (.var 10), (.sel (.avar 8) (.var 25)), (.sel (.avar 9) (.var 25))], [(.var 3)], []⟩ ⟨9, [(.agg [(.int .i64 (.var 9)), (.int .i64 (.var 10))]), (.agg [(.int .i64 (.sel (.avar 8) (.var 25))), (.int .i64 (.sel (.avar 9) (.var 25)))])], [], [none, none, none, none, none], (.bool (.var 3)), []⟩
                        (.ite (.var 3)
                        (.next ⟨[(.bin .addI (.var 25) (.lit 1))], [], []⟩ [])
                        (.out 1 ⟨[], [], []⟩ [])))
                       (.out 1 ⟨[], [], []⟩ [])))
                      (.out 1 ⟨[], [], []⟩ [])))
                     (.out 0 ⟨[], [], []⟩ []))))
                   (.ex ((.exit 2), [(.asl 0 (.var 0)), (.tuple []), (.bool (.lit false)), (.any 3), (.ptr (some ⟨3, 0, none⟩)), (.int .i64 (.var 11)), (.int .i64 (.var 12)), (.ptr (some ⟨4, 0, none⟩)), (.int .i64 (.var 23)), (.int .i64 (.var 24)), (.any 10), (.bool (.var 0)), (.bool (.not (.var 0))), (.asl 0 (.var 0)), (.int .i64 (.var 0)), (.bool (.icmp .gtr (.var 0) (.lit 6))), (.bool (.icmp .gtr (.var 0) (.lit 6))), (.asl 0 (.var 0)), (.int .i64 (.var 0)), (.bool (.icmp .leq (.var 0) (.lit 20))), (.bool (.icmp .leq (.var 0) (.lit 20))), (.bool (.icmp .leq (.var 0) (.lit 20))), (.asl 0 (.var 0)), (.int .i64 (.var 0)), (.bool (.icmp .gtr (.var 0) (.lit 22))), (.bool (.icmp .gtr (.var 0) (.lit 22))), (.any 26), (.any 27), (.any 28), (.any 29), (.any 30), (.any 31), (.any 32), (.any 33), (.any 34), (.any 35), (.any 36), (.any 37), (.any 38), (.tuple [(.agg [(.strn (.var 1)), (.int .i64 (.var 2)), (.int .i64 (.var 3)), (.int .i64 (.var 4)), (.int .i64 (.var 5)), (.int .i64 (.var 6)), (.int .i64 (.var 7)), (.int .i64 (.var 8)), (.int .i64 (.var 9)), (.int .i64 (.var 10))]), (.int .i64 (.var 11)), (.int .i64 (.var 12))]), (.slice (some ⟨1, 0, none⟩) 0 0), (.asl 0 (.var 0)), (.asl 2 (.var 0)), (.tuple [(.agg [(.strn (.var 1)), (.int .i64 (.var 2)), (.int .i64 (.var 3)), (.int .i64 (.var 4)), (.int .i64 (.var 5)), (.int .i64 (.var 6)), (.int .i64 (.var 7)), (.int .i64 (.var 8)), (.int .i64 (.var 9)), (.int .i64 (.var 10))]), (.int .i64 (.var 11)), (.int .i64 (.var 12))]), (.agg [(.strn (.var 1)), (.int .i64 (.var 2)), (.int .i64 (.var 3)), (.int .i64 (.var 4)), (.int .i64 (.var 5)), (.int .i64 (.var 6)), (.int .i64 (.var 7)), (.int .i64 (.var 8)), (.int .i64 (.var 9)), (.int .i64 (.var 10))]), (.int .i64 (.var 11)), (.int .i64 (.var 12)), (.tuple [(.agg [(.strn (.var 13)), (.int .i64 (.var 14)), (.int .i64 (.var 15)), (.int .i64 (.var 16)), (.int .i64 (.var 17)), (.int .i64 (.var 18)), (.int .i64 (.var 19)), (.int .i64 (.var 20)), (.int .i64 (.var 21)), (.int .i64 (.var 22))]), (.int .i64 (.var 23)), (.int .i64 (.var 24))]), (.asl 0 (.var 0)), (.tuple [(.agg [(.strn (.var 13)), (.int .i64 (.var 14)), (.int .i64 (.var 15)), (.int .i64 (.var 16)), (.int .i64 (.var 17)), (.int .i64 (.var 18)), (.int .i64 (.var 19)), (.int .i64 (.var 20)), (.int .i64 (.var 21)), (.int .i64 (.var 22))]), (.int .i64 (.var 23)), (.int .i64 (.var 24))]), (.agg [(.strn (.var 13)), (.int .i64 (.var 14)), (.int .i64 (.var 15)), (.int .i64 (.var 16)), (.int .i64 (.var 17)), (.int .i64 (.var 18)), (.int .i64 (.var 19)), (.int .i64 (.var 20)), (.int .i64 (.var 21)), (.int .i64 (.var 22))]), (.int .i64 (.var 23)), (.int .i64 (.var 24)), (.int .i64 (.var 12)), (.int .i64 (.var 24)), (.bool (.icmp .neq (.var 12) (.var 24))), (.bool (.icmp .neq (.var 12) (.var 24))), (.int .i64 (.var 11)), (.int .i64 (.var 23)), (.bool (.icmp .neq (.var 11) (.var 23))), (.bool (.icmp .neq (.var 11) (.var 23))), (.bool (.icmp .neq (.var 11) (.var 23))), (.agg [(.strn (.var 1)), (.int .i64 (.var 2)), (.int .i64 (.var 3)), (.int .i64 (.var 4)), (.int .i64 (.var 5)), (.int .i64 (.var 6)), (.int .i64 (.var 7)), (.int .i64 (.var 8)), (.int .i64 (.var 9)), (.int .i64 (.var 10))]), (.agg [(.strn (.var 13)), (.int .i64 (.var 14)), (.int .i64 (.var 15)), (.int .i64 (.var 16)), (.int .i64 (.var 17)), (.int .i64 (.var 18)), (.int .i64 (.var 19)), (.int .i64 (.var 20)), (.int .i64 (.var 21)), (.int .i64 (.var 22))]), (.bool (.not (.and (.icmp .eql (.bin .maxI (.var 1) (.lit 0)) (.bin .maxI (.var 13) (.lit 0))) (.and (.icmp .eql (.var 2) (.var 14)) (.and (.and (.icmp .eql (.var 3) (.var 15)) (.icmp .eql (.var 4) (.var 16))) (.and (.and (.icmp .eql (.var 5) (.var 17)) (.icmp .eql (.var 6) (.var 18))) (.and (.and (.icmp .eql (.var 7) (.var 19)) (.icmp .eql (.var 8) (.var 20))) (.and (.icmp .eql (.var 9) (.var 21)) (.icmp .eql (.var 10) (.var 22)))))))))), (.bool (.not (.and (.icmp .eql (.bin .maxI (.var 1) (.lit 0)) (.bin .maxI (.var 13) (.lit 0))) (.and (.icmp .eql (.var 2) (.var 14)) (.and (.and (.icmp .eql (.var 3) (.var 15)) (.icmp .eql (.var 4) (.var 16))) (.and (.and (.icmp .eql (.var 5) (.var 17)) (.icmp .eql (.var 6) (.var 18))) (.and (.and (.icmp .eql (.var 7) (.var 19)) (.icmp .eql (.var 8) (.var 20))) (.and (.icmp .eql (.var 9) (.var 21)) (.icmp .eql (.var 10) (.var 22)))))))))), (.any 66), (.any 67), (.any 68), (.any 69), (.any 70), (.any 71), (.any 72), (.any 73), (.any 74), (.any 75), (.any 76), (.any 77), (.any 78), (.any 79), (.any 80), (.any 81), (.any 82), (.any 83), (.any 84), (.any 85), (.any 86), (.any 87), (.any 88), (.any 89), (.any 90), (.any 91), (.any 92), (.any 93), (.any 94), (.any 95), (.any 96), (.any 97), (.any 98), (.any 99), (.any 100), (.any 101), (.any 102), (.any 103), (.any 104), (.any 105), (.any 106)], [(some ⟨[], 29, true, false, (some ⟨(.var 0), [.str, (.int .i64), (.int .i64), (.int .i64), (.int .i64), (.int .i64), (.int .i64), (.int .i64), (.int .i64), (.int .i64)], [(.avar 0), (.avar 1), (.avar 2), (.avar 3), (.avar 4), (.avar 5), (.avar 6), (.avar 7), (.avar 8), (.avar 9)]⟩)⟩), (some ⟨[], 29, false, false, none⟩), (some ⟨[], 29, false, true, (some ⟨(.var 0), [.str, (.int .i64), (.int .i64), (.int .i64), (.int .i64), (.int .i64), (.int .i64), (.int .i64), (.int .i64), (.int .i64)], [(.avar 0), (.avar 1), (.avar 2), (.avar 3), (.avar 4), (.avar 5), (.avar 6), (.avar 7), (.avar 8), (.avar 9)]⟩)⟩), (some ⟨[(.strn (.var 1)), (.int .i64 (.var 2)), (.int .i64 (.var 3)), (.int .i64 (.var 4)), (.int .i64 (.var 5)), (.int .i64 (.var 6)), (.int .i64 (.var 7)), (.int .i64 (.var 8)), (.int .i64 (.var 9)), (.int .i64 (.var 10))], 29, false, false, none⟩), (some ⟨[(.strn (.var 13)), (.int .i64 (.var 14)), (.int .i64 (.var 15)), (.int .i64 (.var 16)), (.int .i64 (.var 17)), (.int .i64 (.var 18)), (.int .i64 (.var 19)), (.int .i64 (.var 20)), (.int .i64 (.var 21)), (.int .i64 (.var 22))], 29, false, false, none⟩)], []) ⟨0, 0, 0⟩
                   (.ret ⟨[], [(.lit true)], []⟩ [])
                   (.ex (.ret, [(.asl 0 (.var 0)), (.tuple []), (.bool (.lit false)), (.any 3), (.ptr (some ⟨3, 0, none⟩)), (.int .i64 (.var 11)), (.int .i64 (.var 12)), (.ptr (some ⟨4, 0, none⟩)), (.int .i64 (.var 23)), (.int .i64 (.var 24)), (.any 10), (.bool (.var 0)), (.bool (.not (.var 0))), (.asl 0 (.var 0)), (.int .i64 (.var 0)), (.bool (.icmp .gtr (.var 0) (.lit 6))), (.bool (.icmp .gtr (.var 0) (.lit 6))), (.asl 0 (.var 0)), (.int .i64 (.var 0)), (.bool (.icmp .leq (.var 0) (.lit 20))), (.bool (.icmp .leq (.var 0) (.lit 20))), (.bool (.icmp .leq (.var 0) (.lit 20))), (.asl 0 (.var 0)), (.int .i64 (.var 0)), (.bool (.icmp .gtr (.var 0) (.lit 22))), (.bool (.icmp .gtr (.var 0) (.lit 22))), (.any 26), (.any 27), (.any 28), (.any 29), (.any 30), (.any 31), (.any 32), (.any 33), (.any 34), (.any 35), (.any 36), (.any 37), (.any 38), (.tuple [(.agg [(.strn (.var 1)), (.int .i64 (.var 2)), (.int .i64 (.var 3)), (.int .i64 (.var 4)), (.int .i64 (.var 5)), (.int .i64 (.var 6)), (.int .i64 (.var 7)), (.int .i64 (.var 8)), (.int .i64 (.var 9)), (.int .i64 (.var 10))]), (.int .i64 (.var 11)), (.int .i64 (.var 12))]), (.slice (some ⟨1, 0, none⟩) 0 0), (.asl 0 (.var 0)), (.asl 2 (.var 0)), (.tuple [(.agg [(.strn (.var 1)), (.int .i64 (.var 2)), (.int .i64 (.var 3)), (.int .i64 (.var 4)), (.int .i64 (.var 5)), (.int .i64 (.var 6)), (.int .i64 (.var 7)), (.int .i64 (.var 8)), (.int .i64 (.var 9)), (.int .i64 (.var 10))]), (.int .i64 (.var 11)), (.int .i64 (.var 12))]), (.agg [(.strn (.var 1)), (.int .i64 (.var 2)), (.int .i64 (.var 3)), (.int .i64 (.var 4)), (.int .i64 (.var 5)), (.int .i64 (.var 6)), (.int .i64 (.var 7)), (.int .i64 (.var 8)), (.int .i64 (.var 9)), (.int .i64 (.var 10))]), (.int .i64 (.var 11)), (.int .i64 (.var 12)), (.tuple [(.agg [(.strn (.var 13)), (.int .i64 (.var 14)), (.int .i64 (.var 15)), (.int .i64 (.var 16)), (.int .i64 (.var 17)), (.int .i64 (.var 18)), (.int .i64 (.var 19)), (.int .i64 (.var 20)), (.int .i64 (.var 21)), (.int .i64 (.var 22))]), (.int .i64 (.var 23)), (.int .i64 (.var 24))]), (.asl 0 (.var 0)), (.tuple [(.agg [(.strn (.var 13)), (.int .i64 (.var 14)), (.int .i64 (.var 15)), (.int .i64 (.var 16)), (.int .i64 (.var 17)), (.int .i64 (.var 18)), (.int .i64 (.var 19)), (.int .i64 (.var 20)), (.int .i64 (.var 21)), (.int .i64 (.var 22))]), (.int .i64 (.var 23)), (.int .i64 (.var 24))]), (.agg [(.strn (.var 13)), (.int .i64 (.var 14)), (.int .i64 (.var 15)), (.int .i64 (.var 16)), (.int .i64 (.var 17)), (.int .i64 (.var 18)), (.int .i64 (.var 19)), (.int .i64 (.var 20)), (.int .i64 (.var 21)), (.int .i64 (.var 22))]), (.int .i64 (.var 23)), (.int .i64 (.var 24)), (.int .i64 (.var 12)), (.int .i64 (.var 24)), (.bool (.icmp .neq (.var 12) (.var 24))), (.bool (.icmp .neq (.var 12) (.var 24))), (.int .i64 (.var 11)), (.int .i64 (.var 23)), (.bool (.icmp .neq (.var 11) (.var 23))), (.bool (.icmp .neq (.var 11) (.var 23))), (.bool (.icmp .neq (.var 11) (.var 23))), (.agg [(.strn (.var 1)), (.int .i64 (.var 2)), (.int .i64 (.var 3)), (.int .i64 (.var 4)), (.int .i64 (.var 5)), (.int .i64 (.var 6)), (.int .i64 (.var 7)), (.int .i64 (.var 8)), (.int .i64 (.var 9)), (.int .i64 (.var 10))]), (.agg [(.strn (.var 13)), (.int .i64 (.var 14)), (.int .i64 (.var 15)), (.int .i64 (.var 16)), (.int .i64 (.var 17)), (.int .i64 (.var 18)), (.int .i64 (.var 19)), (.int .i64 (.var 20)), (.int .i64 (.var 21)), (.int .i64 (.var 22))]), (.bool (.not (.and (.icmp .eql (.bin .maxI (.var 1) (.lit 0)) (.bin .maxI (.var 13) (.lit 0))) (.and (.icmp .eql (.var 2) (.var 14)) (.and (.and (.icmp .eql (.var 3) (.var 15)) (.icmp .eql (.var 4) (.var 16))) (.and (.and (.icmp .eql (.var 5) (.var 17)) (.icmp .eql (.var 6) (.var 18))) (.and (.and (.icmp .eql (.var 7) (.var 19)) (.icmp .eql (.var 8) (.var 20))) (.and (.icmp .eql (.var 9) (.var 21)) (.icmp .eql (.var 10) (.var 22)))))))))), (.bool (.not (.and (.icmp .eql (.bin .maxI (.var 1) (.lit 0)) (.bin .maxI (.var 13) (.lit 0))) (.and (.icmp .eql (.var 2) (.var 14)) (.and (.and (.icmp .eql (.var 3) (.var 15)) (.icmp .eql (.var 4) (.var 16))) (.and (.and (.icmp .eql (.var 5) (.var 17)) (.icmp .eql (.var 6) (.var 18))) (.and (.and (.icmp .eql (.var 7) (.var 19)) (.icmp .eql (.var 8) (.var 20))) (.and (.icmp .eql (.var 9) (.var 21)) (.icmp .eql (.var 10) (.var 22)))))))))), (.any 66), (.any 67), (.any 68), (.any 69), (.any 70), (.any 71), (.any 72), (.any 73), (.any 74), (.any 75), (.any 76), (.any 77), (.any 78), (.any 79), (.any 80), (.any 81), (.any 82), (.any 83), (.any 84), (.any 85), (.any 86), (.any 87), (.any 88), (.any 89), (.any 90), (.any 91), (.any 92), (.any 93), (.any 94), (.any 95), (.any 96), (.any 97), (.any 98), (.any 99), (.any 100), (.any 101), (.any 102), (.any 103), (.any 104), (.any 105), (.any 106)], [(some ⟨[], 29, true, false, (some ⟨(.var 0), [.str, (.int .i64), (.int .i64), (.int .i64), (.int .i64), (.int .i64), (.int .i64), (.int .i64), (.int .i64), (.int .i64)], [(.avar 0), (.avar 1), (.avar 2), (.avar 3), (.avar 4), (.avar 5), (.avar 6), (.avar 7), (.avar 8), (.avar 9)]⟩)⟩), (some ⟨[], 29, false, false, none⟩), (some ⟨[], 29, false, true, (some ⟨(.var 0), [.str, (.int .i64), (.int .i64), (.int .i64), (.int .i64), (.int .i64), (.int .i64), (.int .i64), (.int .i64), (.int .i64)], [(.avar 0), (.avar 1), (.avar 2), (.avar 3), (.avar 4), (.avar 5), (.avar 6), (.avar 7), (.avar 8), (.avar 9)]⟩)⟩), (some ⟨[(.strn (.var 1)), (.int .i64 (.var 2)), (.int .i64 (.var 3)), (.int .i64 (.var 4)), (.int .i64 (.var 5)), (.int .i64 (.var 6)), (.int .i64 (.var 7)), (.int .i64 (.var 8)), (.int .i64 (.var 9)), (.int .i64 (.var 10))], 29, false, false, none⟩), (some ⟨[(.strn (.var 13)), (.int .i64 (.var 14)), (.int .i64 (.var 15)), (.int .i64 (.var 16)), (.int .i64 (.var 17)), (.int .i64 (.var 18)), (.int .i64 (.var 19)), (.int .i64 (.var 20)), (.int .i64 (.var 21)), (.int .i64 (.var 22))], 29, false, false, none⟩)], []) ⟨0, 0, 0⟩
                   (.ret ⟨[], [(.lit false)], []⟩ [])
                   .nil)))
                  (.ret ⟨[], [(.lit false)], []⟩ []))
                 (.ret ⟨[], [(.lit false)], []⟩ []))
                (.ret ⟨[], [(.lit false)], []⟩ []))
               (.ret ⟨[], [(.lit false)], []⟩ []))
              (.ret ⟨[], [(.lit false)], []⟩ []))
             (.ret ⟨[], [(.lit false)], []⟩ []))
            (.ret ⟨[], [(.lit false)], []⟩ []))
           (.ret ⟨[], [(.lit false)], []⟩ []))
          (.ret ⟨[], [(.lit false)], []⟩ []))
         (.ret ⟨[], [(.lit false)], []⟩ []))
        (.ret ⟨[], [(.lit false)], []⟩ []))
       (.ret ⟨[], [(.lit false)], []⟩ []))))
      .nil)))
     (.ret ⟨[], [(.lit true)], []⟩ []))))
  (.ret ⟨[], [(.lit false)], []⟩ [])))
theorem mla {x0 : Int} {f0 f1 f2 f3 f4 f5 f6 f7 f8 f9 : Int → Int} (r0 : 0 ≤ x0 ∧ x0 ≤ 9223372036854775807) (s1 : ∀ q, (-9223372036854775808) ≤ f1 q ∧ f1 q ≤ 9223372036854775807) (s2 : ∀ q, (-9223372036854775808) ≤ f2 q ∧ f2 q ≤ 9223372036854775807) (s3 : ∀ q, (-9223372036854775808) ≤ f3 q ∧ f3 q ≤ 9223372036854775807) (s4 : ∀ q, (-9223372036854775808) ≤ f4 q ∧ f4 q ≤ 9223372036854775807) (s5 : ∀ q, (-9223372036854775808) ≤ f5 q ∧ f5 q ≤ 9223372036854775807) (s6 : ∀ q, (-9223372036854775808) ≤ f6 q ∧ f6 q ≤ 9223372036854775807) (s7 : ∀ q, (-9223372036854775808) ≤ f7 q ∧ f7 q ≤ 9223372036854775807) (s8 : ∀ q, (-9223372036854775808) ≤ f8 q ∧ f8 q ≤ 9223372036854775807) (s9 : ∀ q, (-9223372036854775808) ≤ f9 q ∧ f9 q ≤ 9223372036854775807) {R : Bool → Prop}
  (H : (∃ u0 : Bool, Spec Try.prog etalonlaw06_awake_s ⟨[], [], []⟩ [] [u0] [] ∧
   ((u0 = true → ((decide ((x0 : Int) ≤ 6) = true → (∃ (I1 : Int → Prop) (rk1 : Int → Nat), I1 (0) ∧
     (∀ x1 : Int, I1 x1 → ((0 ≤ (x1 : Int) ∧ (x1 : Int) ≤ 22) ∧ ((decide ((x0 : Int) ≤ x1) = true → (∃ v1' : Int, ∃ v2' : Int, ∃ v3' : Int, ∃ v4' : Int, ∃ v5' : Int, ∃ v6' : Int, ∃ v7' : Int, ∃ v8' : Int, ∃ v9' : Int, ∃ v10' : Int, ∃ v11' : Int, ∃ v12' : Int, Spec Try.prog meter_Averaged_s ⟨[x0], [], [f0, f1, f2, f3, f4, f5, f6, f7, f8, f9]⟩ [v1', v2', v3', v4', v5', v6', v7', v8', v9', v10', v11', v12'] [] [] ∧
      (∃ v13' : Int, ∃ v14' : Int, ∃ v15' : Int, ∃ v16' : Int, ∃ v17' : Int, ∃ v18' : Int, ∃ v19' : Int, ∃ v20' : Int, ∃ v21' : Int, ∃ v22' : Int, ∃ v23' : Int, ∃ v24' : Int, Spec Try.prog etalonref06_Averaged_s ⟨[x0], [], [f0, f1, f2, f3, f4, f5, f6, f7, f8, f9]⟩ [v13', v14', v15', v16', v17', v18', v19', v20', v21', v22', v23', v24'] [] [] ∧
      ((((v12' : Int) == v24') = true → ((((v11' : Int) == v23') = true → (((((if (0 : Int) > v1' then 0 else v1') : Int) == (if (0 : Int) > v13' then 0 else v13')) = true → ((((v2' : Int) == v14') = true → ((((v3' : Int) == v15') = true → ((((v4' : Int) == v16') = true → ((((v5' : Int) == v17') = true → ((((v6' : Int) == v18') = true → ((((v7' : Int) == v19') = true → ((((v8' : Int) == v20') = true → ((((v9' : Int) == v21') = true → ((((v10' : Int) == v22') = true → (∃ (I25' : Int → Prop) (rk25' : Int → Nat), I25' (0) ∧
                  (∀ x25' : Int, I25' x25' → ((0 ≤ (x25' : Int) ∧ (x25' : Int) ≤ 22) ∧ ((decide ((x0 : Int) ≤ x25') = true → R (true)) ∧
                   (decide ((x0 : Int) ≤ x25') = false → ((((v24' : Int) == 0) = true → (∃ u1' : Bool, Spec Try.prog etalonlaw06_inside_s ⟨[v5', v6', (f4 x25'), (f5 x25')], [], []⟩ [] [u1'] [] ∧
                     ((u1' = true → (∃ u2' : Bool, Spec Try.prog etalonlaw06_inside_s ⟨[v7', v8', (f6 x25'), (f7 x25')], [], []⟩ [] [u2'] [] ∧
                      ((u2' = true → (∃ u3' : Bool, Spec Try.prog etalonlaw06_inside_s ⟨[v9', v10', (f8 x25'), (f9 x25')], [], []⟩ [] [u3'] [] ∧
                       ((u3' = true → (I25' ((x25' + 1)) ∧ rk25' ((x25' + 1)) < rk25' x25')) ∧
                       (u3' = false → R (false))))) ∧
                      (u2' = false → R (false))))) ∧
                     (u1' = false → R (false))))) ∧
                    (((v24' : Int) == 0) = false → R (true))))))))) ∧
                 (((v10' : Int) == v22') = false → R (false)))) ∧
                (((v9' : Int) == v21') = false → R (false)))) ∧
               (((v8' : Int) == v20') = false → R (false)))) ∧
              (((v7' : Int) == v19') = false → R (false)))) ∧
             (((v6' : Int) == v18') = false → R (false)))) ∧
            (((v5' : Int) == v17') = false → R (false)))) ∧
           (((v4' : Int) == v16') = false → R (false)))) ∧
          (((v3' : Int) == v15') = false → R (false)))) ∧
         (((v2' : Int) == v14') = false → R (false)))) ∧
        ((((if (0 : Int) > v1' then 0 else v1') : Int) == (if (0 : Int) > v13' then 0 else v13')) = false → R (false)))) ∧
       (((v11' : Int) == v23') = false → R (false)))) ∧
      (((v12' : Int) == v24') = false → R (false)))))) ∧
      (decide ((x0 : Int) ≤ x1) = false → ((decide (((NOp.den .sLen (f0 x1) 0) : Int) ≤ 30) = true → (I1 ((x1 + 1)) ∧ rk1 ((x1 + 1)) < rk1 x1)) ∧
       (decide (((NOp.den .sLen (f0 x1) 0) : Int) ≤ 30) = false → R (true))))))))) ∧
    (decide ((x0 : Int) ≤ 6) = false → ((decide ((x0 : Int) ≤ 20) = true → R (true)) ∧
     (decide ((x0 : Int) ≤ 20) = false → ((decide ((x0 : Int) ≤ 22) = true → (∃ (I1 : Int → Prop) (rk1 : Int → Nat), I1 (0) ∧
       (∀ x1 : Int, I1 x1 → ((0 ≤ (x1 : Int) ∧ (x1 : Int) ≤ 22) ∧ ((decide ((x0 : Int) ≤ x1) = true → (∃ v1' : Int, ∃ v2' : Int, ∃ v3' : Int, ∃ v4' : Int, ∃ v5' : Int, ∃ v6' : Int, ∃ v7' : Int, ∃ v8' : Int, ∃ v9' : Int, ∃ v10' : Int, ∃ v11' : Int, ∃ v12' : Int, Spec Try.prog meter_Averaged_s ⟨[x0], [], [f0, f1, f2, f3, f4, f5, f6, f7, f8, f9]⟩ [v1', v2', v3', v4', v5', v6', v7', v8', v9', v10', v11', v12'] [] [] ∧
        (∃ v13' : Int, ∃ v14' : Int, ∃ v15' : Int, ∃ v16' : Int, ∃ v17' : Int, ∃ v18' : Int, ∃ v19' : Int, ∃ v20' : Int, ∃ v21' : Int, ∃ v22' : Int, ∃ v23' : Int, ∃ v24' : Int, Spec Try.prog etalonref06_Averaged_s ⟨[x0], [], [f0, f1, f2, f3, f4, f5, f6, f7, f8, f9]⟩ [v13', v14', v15', v16', v17', v18', v19', v20', v21', v22', v23', v24'] [] [] ∧
        ((((v12' : Int) == v24') = true → ((((v11' : Int) == v23') = true → (((((if (0 : Int) > v1' then 0 else v1') : Int) == (if (0 : Int) > v13' then 0 else v13')) = true → ((((v2' : Int) == v14') = true → ((((v3' : Int) == v15') = true → ((((v4' : Int) == v16') = true → ((((v5' : Int) == v17') = true → ((((v6' : Int) == v18') = true → ((((v7' : Int) == v19') = true → ((((v8' : Int) == v20') = true → ((((v9' : Int) == v21') = true → ((((v10' : Int) == v22') = true → (∃ (I25' : Int → Prop) (rk25' : Int → Nat), I25' (0) ∧
                    (∀ x25' : Int, I25' x25' → ((0 ≤ (x25' : Int) ∧ (x25' : Int) ≤ 22) ∧ ((decide ((x0 : Int) ≤ x25') = true → R (true)) ∧
                     (decide ((x0 : Int) ≤ x25') = false → ((((v24' : Int) == 0) = true → (∃ u1' : Bool, Spec Try.prog etalonlaw06_inside_s ⟨[v5', v6', (f4 x25'), (f5 x25')], [], []⟩ [] [u1'] [] ∧
                       ((u1' = true → (∃ u2' : Bool, Spec Try.prog etalonlaw06_inside_s ⟨[v7', v8', (f6 x25'), (f7 x25')], [], []⟩ [] [u2'] [] ∧
                        ((u2' = true → (∃ u3' : Bool, Spec Try.prog etalonlaw06_inside_s ⟨[v9', v10', (f8 x25'), (f9 x25')], [], []⟩ [] [u3'] [] ∧
                         ((u3' = true → (I25' ((x25' + 1)) ∧ rk25' ((x25' + 1)) < rk25' x25')) ∧
                         (u3' = false → R (false))))) ∧
                        (u2' = false → R (false))))) ∧
                       (u1' = false → R (false))))) ∧
                      (((v24' : Int) == 0) = false → R (true))))))))) ∧
                   (((v10' : Int) == v22') = false → R (false)))) ∧
                  (((v9' : Int) == v21') = false → R (false)))) ∧
                 (((v8' : Int) == v20') = false → R (false)))) ∧
                (((v7' : Int) == v19') = false → R (false)))) ∧
               (((v6' : Int) == v18') = false → R (false)))) ∧
              (((v5' : Int) == v17') = false → R (false)))) ∧
             (((v4' : Int) == v16') = false → R (false)))) ∧
            (((v3' : Int) == v15') = false → R (false)))) ∧
           (((v2' : Int) == v14') = false → R (false)))) ∧
          ((((if (0 : Int) > v1' then 0 else v1') : Int) == (if (0 : Int) > v13' then 0 else v13')) = false → R (false)))) ∧
         (((v11' : Int) == v23') = false → R (false)))) ∧
        (((v12' : Int) == v24') = false → R (false)))))) ∧
        (decide ((x0 : Int) ≤ x1) = false → ((decide (((NOp.den .sLen (f0 x1) 0) : Int) ≤ 30) = true → (I1 ((x1 + 1)) ∧ rk1 ((x1 + 1)) < rk1 x1)) ∧
         (decide (((NOp.den .sLen (f0 x1) 0) : Int) ≤ 30) = false → R (true))))))))) ∧
      (decide ((x0 : Int) ≤ 22) = false → R (true)))))))) ∧
   (u0 = false → R (false))))) :
    ∃ u0 : Bool, R u0 ∧ Spec Try.prog etalonlaw06_MeterAverages_s ⟨[x0], [], [f0, f1, f2, f3, f4, f5, f6, f7, f8, f9]⟩ [] [u0] [] :=
  Eq.mp (by kernel_rfl) (exV_of (K := fun d => app3 etalonlaw06_MeterAverages_s.out R d ∧ Spec Try.prog etalonlaw06_MeterAverages_s ⟨[x0], [], [f0, f1, f2, f3, f4, f5, f6, f7, f8, f9]⟩ d.1 d.2.1 d.2.2) (tree_at mixed names S1_ok (S := S1 Try.prog) (lf := 100000) (d := 60) etalonlaw06_MeterAverages_s mla_t { ivs := [(0, 0, 9223372036854775807)], aivs := [(1, (-9223372036854775808), 9223372036854775807), (2, (-9223372036854775808), 9223372036854775807), (3, (-9223372036854775808), 9223372036854775807), (4, (-9223372036854775808), 9223372036854775807), (5, (-9223372036854775808), 9223372036854775807), (6, (-9223372036854775808), 9223372036854775807), (7, (-9223372036854775808), 9223372036854775807), (8, (-9223372036854775808), 9223372036854775807), (9, (-9223372036854775808), 9223372036854775807)] } ⟨[x0], [], [f0, f1, f2, f3, f4, f5, f6, f7, f8, f9]⟩ rfl (by kernel_rfl) (by kernel_rfl) (by kernel_rfl) ⟨(fc r0 fz), fz, (fc s1 (fc s2 (fc s3 (fc s4 (fc s5 (fc s6 (fc s7 (fc s8 (fc s9 fz))))))))), fz⟩ (R := fun d => app3 etalonlaw06_MeterAverages_s.out R d) (Eq.mp (by kernel_rfl) H)))

/-- Readings, by their columns. -/

structure Cols where

  c0 : Int → Int

  c1 : Int → Int

  c2 : Int → Int

  c3 : Int → Int

  c4 : Int → Int

  c5 : Int → Int

  c6 : Int → Int

  c7 : Int → Int

  c8 : Int → Int

  c9 : Int → Int

/-- The greatest least number, the least greatest one, of the first readings. -/

def rlo (f : Int → Int) : Nat → Int

  | 0 => f 0

  | n + 1 => if f ((n : Nat) : Int) > rlo f n then f ((n : Nat) : Int) else rlo f n

def rhi (f : Int → Int) : Nat → Int

  | 0 => f 0

  | n + 1 => if f ((n : Nat) : Int) < rhi f n then f ((n : Nat) : Int) else rhi f n

theorem rlo_next {f : Int → Int} {i : Int} (h : 0 ≤ i) : rlo f (i + 1).toNat = if f i > rlo f i.toNat then f i else rlo f i.toNat := by

  obtain ⟨n, rfl⟩ := Int.eq_ofNat_of_zero_le h

  rfl

theorem rhi_next {f : Int → Int} {i : Int} (h : 0 ≤ i) : rhi f (i + 1).toNat = if f i < rhi f i.toNat then f i else rhi f i.toNat := by

  obtain ⟨n, rfl⟩ := Int.eq_ofNat_of_zero_le h

  rfl

theorem rlo_ge {f : Int → Int} {j : Nat} : ∀ {n : Nat}, j < n → f ((j : Nat) : Int) ≤ rlo f n

  | 0, h => by omega

  | n + 1, h => by

    unfold rlo

    by_cases e : j = n

    · subst e; split <;> omega

    · have := rlo_ge (f := f) (j := j) (n := n) (by omega)

      split <;> omega

theorem rhi_le {f : Int → Int} {j : Nat} : ∀ {n : Nat}, j < n → rhi f n ≤ f ((j : Nat) : Int)

  | 0, h => by omega

  | n + 1, h => by

    unfold rhi

    by_cases e : j = n

    · subst e; split <;> omega

    · have := rhi_le (f := f) (j := j) (n := n) (by omega)

      split <;> omega

theorem rlo_i {f : Int → Int} (s : ∀ q, I64 (f q)) : ∀ n, I64 (rlo f n)

  | 0 => s 0

  | n + 1 => by unfold rlo; split; exact s _; exact rlo_i s n

theorem rhi_i {f : Int → Int} (s : ∀ q, I64 (f q)) : ∀ n, I64 (rhi f n)

  | 0 => s 0

  | n + 1 => by unfold rhi; split; exact s _; exact rhi_i s n

def erN (C : Cols) (n e : Int) : Prop := ∃ u : Bool, (u = true ↔ nmP (C.c0 n)) ∧ e = rdE u (C.c1 n) (C.c2 n) (C.c3 n) (C.c4 n) (C.c5 n) (C.c6 n) (C.c7 n) (C.c8 n) (C.c9 n)

theorem erN_uniq {C : Cols} {n e e' : Int} (h : erN C n e) (h' : erN C n e') : e = e' := by

  obtain ⟨u, hu, he⟩ := h

  obtain ⟨v, hv, he'⟩ := h'

  have : u = v := by

    cases u <;> cases v

    · rfl

    · have := hu.2 (hv.1 rfl); cases this

    · have := hv.2 (hu.1 rfl); cases this

    · rfl

  subst this

  rw [he, he']

def alike (C : Cols) (n : Int) : Prop := C.c1 n = C.c1 0 ∧ C.c2 n = C.c2 0 ∧ C.c3 n = C.c3 0

def meets (C : Cols) (n : Int) : Prop := rlo C.c4 (n + 1).toNat ≤ rhi C.c5 (n + 1).toNat ∧ rlo C.c6 (n + 1).toNat ≤ rhi C.c7 (n + 1).toNat ∧ rlo C.c8 (n + 1).toNat ≤ rhi C.c9 (n + 1).toNat

def avOk (C : Cols) (n : Int) : Prop := erN C n 0 ∧ alike C n ∧ meets C n

def avBad (C : Cols) (n e : Int) : Prop := (erN C n e ∧ e ≠ 0) ∨ (erN C n 0 ∧ ¬ alike C n ∧ e = 25) ∨ (erN C n 0 ∧ alike C n ∧ ¬ meets C n ∧ e = 14)

theorem avBad.no {C : Cols} {n e : Int} (h : avBad C n e) : ¬ avOk C n ∧ e ≠ 0 := by

  rcases h with ⟨a, b⟩ | ⟨a, b, c⟩ | ⟨a, b, c, d⟩

  · exact ⟨fun g => b (erN_uniq a g.1), b⟩

  · exact ⟨fun g => b g.2.1, by omega⟩

  · exact ⟨fun g => c g.2.2, by omega⟩

theorem avBad.uniq {C : Cols} {n e e' : Int} (h : avBad C n e) (h' : avBad C n e') : e = e' := by

  rcases h with ⟨a, b⟩ | ⟨a, b, c⟩ | ⟨a, b, c, d⟩ <;> rcases h' with ⟨a', b'⟩ | ⟨a', b', c'⟩ | ⟨a', b', c', d'⟩

  · exact erN_uniq a a'

  · exact absurd (erN_uniq a a') b

  · exact absurd (erN_uniq a a') b

  · exact absurd (erN_uniq a' a) b'

  · omega

  · exact absurd b' b

  · exact absurd (erN_uniq a' a) b'

  · exact absurd b b'

  · omega

theorem first_one {P : Int → Prop} {k k' : Int} (h0 : 0 ≤ k) (h : ∀ j, 0 ≤ j → j < k → P j) (n : ¬ P k) (h0' : 0 ≤ k') (h' : ∀ j, 0 ≤ j → j < k' → P j) (n' : ¬ P k') : k = k' := by

  rcases Int.lt_trichotomy k k' with g | g | g

  · exact absurd (h' k h0 g) n

  · exact g

  · exact absurd (h k' h0' g) n'

inductive avIs (C : Cols) (x0 : Int) : List Int → Prop where

  | nothing : x0 = 0 → avIs C x0 [0, 0, 0, 0, 0, 0, 0, 0, 0, 0, 0, 12]

  | many : 20 < x0 → avIs C x0 [0, 0, 0, 0, 0, 0, 0, 0, 0, 0, 0, 8]

  | bad {k e : Int} : (1 ≤ x0 ∧ x0 ≤ 20) → (0 ≤ k ∧ k < x0) → (∀ j, 0 ≤ j → j < k → avOk C j) → avBad C k e → avIs C x0 [0, 0, 0, 0, 0, 0, 0, 0, 0, 0, k, e]

  | fine : (1 ≤ x0 ∧ x0 ≤ 20) → (∀ j, 0 ≤ j → j < x0 → avOk C j) → avIs C x0 [C.c0 0, C.c1 0, C.c2 0, C.c3 0, rlo C.c4 x0.toNat, rhi C.c5 x0.toNat, rlo C.c6 x0.toNat, rhi C.c7 x0.toNat, rlo C.c8 x0.toNat, rhi C.c9 x0.toNat, 0, 0]

theorem avIs_uniq {C : Cols} {x0 : Int} {l l' : List Int} (h : avIs C x0 l) (h' : avIs C x0 l') : l = l' := by

  cases h with

  | nothing a => cases h' with

    | nothing _ => rfl

    | many _ => omega

    | bad _ _ _ _ => omega

    | fine _ _ => omega

  | many a => cases h' with

    | nothing _ => omega

    | many _ => rfl

    | bad _ _ _ _ => omega

    | fine _ _ => omega

  | bad a b c d => cases h' with

    | nothing _ => omega

    | many _ => omega

    | bad a' b' c' d' =>

      have e1 := first_one b.1 c d.no.1 b'.1 c' d'.no.1

      subst e1

      rw [d.uniq d']

    | fine a' b' => exact absurd (b' _ b.1 b.2) d.no.1

  | fine a b => cases h' with

    | nothing _ => omega

    | many _ => omega

    | bad a' b' c' d' => exact absurd (b _ b'.1 b'.2) d'.no.1

    | fine _ _ => rfl

theorem checkReading_r {x0 x1 x2 x3 x4 x5 x6 x7 x8 x9 : Int} {u : Bool} (hu : Spec Try.prog etalonbase_IsName_s ⟨[x0], [], []⟩ [] [u] []) (r1 : I64 x1) (r2 : I64 x2) (r3 : I64 x3) (r4 : I64 x4) (r5 : I64 x5) (r6 : I64 x6) (r7 : I64 x7) (r8 : I64 x8) (r9 : I64 x9) :

    Spec Try.prog etalonref06_CheckReading_s ⟨[x0, x1, x2, x3, x4, x5, x6, x7, x8, x9], [], []⟩ [rdE u x1 x2 x3 x4 x5 x6 x7 x8 x9] [] [] := by

  suffices hh : ∃ v : Int, v = rdE u x1 x2 x3 x4 x5 x6 x7 x8 x9 ∧ Spec Try.prog etalonref06_CheckReading_s ⟨[x0, x1, x2, x3, x4, x5, x6, x7, x8, x9], [], []⟩ [v] [] [] by

    obtain ⟨v, rfl, hs⟩ := hh

    exact hs

  refine rcr r1 r2 r3 r4 r5 r6 r7 r8 r9 (R := (· = rdE u x1 x2 x3 x4 x5 x6 x7 x8 x9)) ⟨u, hu, ?_⟩

  simp only [decide_eq_true_eq, decide_eq_false_iff_not]

  unfold rdE se fe re

  cases u

  · exact ⟨fun h => (by cases h), fun _ => rfl⟩

  · refine ⟨fun _ => ?_, fun h => by cases h⟩

    rw [if_pos rfl]

    repeat' (first | (refine ⟨fun _ => ?_, fun _ => ?_⟩) | fail)

    all_goals (repeat (first | rw [if_pos (by omega)] | rw [if_neg (by omega)]))

def avI (C : Cols) (x0 i a b c d e f : Int) : Prop := (0 ≤ i ∧ i ≤ x0) ∧ (∀ j, 0 ≤ j → j < i → avOk C j) ∧ (a = rlo C.c4 i.toNat ∧ b = rhi C.c5 i.toNat ∧ c = rlo C.c6 i.toNat ∧ d = rhi C.c7 i.toNat ∧ e = rlo C.c8 i.toNat ∧ f = rhi C.c9 i.toNat)

theorem b_i {C : Cols} {n e : Int} (h : erN C n e) : I64 e := by

  obtain ⟨u, _, rfl⟩ := h

  have f : ∀ a b : Int, (0 ≤ a ∧ a ≤ 100) → (0 ≤ b ∧ b ≤ 100) → (0 ≤ fe a b ∧ fe a b ≤ 100) := by

    intro a b ha hb

    unfold fe

    split <;> omega

  have r : ∀ L M a b : Int, 0 ≤ re L M a b ∧ re L M a b ≤ 100 := by

    intro L M a b

    unfold re

    split

    · split <;> omega

    · omega

  have s := se_vals u (C.c1 n) (C.c2 n) (C.c3 n)

  have k := f _ _ (show 0 ≤ se u (C.c1 n) (C.c2 n) (C.c3 n) ∧ se u (C.c1 n) (C.c2 n) (C.c3 n) ≤ 100 by omega) (f _ _ (r (-1048576) 1048576 (C.c4 n) (C.c5 n)) (f _ _ (r (-1048576) 1048576 (C.c6 n) (C.c7 n)) (r (-1048576) 1048576 (C.c8 n) (C.c9 n))))

  unfold rdE

  exact ⟨by omega, by omega⟩

theorem common_s {a b c d : Int} (r0 : I64 a) (r1 : I64 b) (r2 : I64 c) (r3 : I64 d) : Spec Try.prog etalonref06_common_s ⟨[a, b, c, d], [], []⟩ [if c > a then c else a, if d < b then d else b] [decide ((if c > a then c else a) ≤ (if d < b then d else b))] [] := by

  obtain ⟨v, w, u, ⟨rfl, rfl, rfl⟩, hs⟩ := mco r0 r1 r2 r3 (R := fun v w u => v = (if c > a then c else a) ∧ w = (if d < b then d else b) ∧ u = decide ((if c > a then c else a) ≤ (if d < b then d else b))) ⟨rfl, rfl, rfl⟩

  exact hs

theorem inside_s {a b c d : Int} (r0 : I64 a) (r1 : I64 b) (r2 : I64 c) (r3 : I64 d) (h : c ≤ a) (g : b ≤ d) : Spec Try.prog etalonlaw06_inside_s ⟨[a, b, c, d], [], []⟩ [] [true] [] := by

  obtain ⟨u, hu, hs⟩ := ins r0 r1 r2 r3 (R := fun u => u = true) ⟨fun _ => decide_eq_true g, fun n => absurd h (of_decide_eq_false n)⟩

  have hu : u = true := hu

  subst hu

  exact hs

set_option maxHeartbeats 2000000 in

theorem averaged_p {x0 : Int} {f0 f1 f2 f3 f4 f5 f6 f7 f8 f9 : Int → Int} (r0 : 0 ≤ x0 ∧ x0 ≤ 22) (s1 : ∀ q, I64 (f1 q)) (s2 : ∀ q, I64 (f2 q)) (s3 : ∀ q, I64 (f3 q)) (s4 : ∀ q, I64 (f4 q)) (s5 : ∀ q, I64 (f5 q)) (s6 : ∀ q, I64 (f6 q)) (s7 : ∀ q, I64 (f7 q)) (s8 : ∀ q, I64 (f8 q)) (s9 : ∀ q, I64 (f9 q)) :

    ∃ v0 v1 v2 v3 v4 v5 v6 v7 v8 v9 k e : Int, avIs (Cols.mk f0 f1 f2 f3 f4 f5 f6 f7 f8 f9) x0 [v0, v1, v2, v3, v4, v5, v6, v7, v8, v9, k, e] ∧ Spec Try.prog meter_Averaged_s ⟨[x0], [], [f0, f1, f2, f3, f4, f5, f6, f7, f8, f9]⟩ [v0, v1, v2, v3, v4, v5, v6, v7, v8, v9, k, e] [] [] := by

  refine mav r0 s1 s2 s3 s4 s5 s6 s7 s8 s9 (R := fun v0 v1 v2 v3 v4 v5 v6 v7 v8 v9 k e => avIs (Cols.mk f0 f1 f2 f3 f4 f5 f6 f7 f8 f9) x0 [v0, v1, v2, v3, v4, v5, v6, v7, v8, v9, k, e]) ⟨fun h => .nothing (eq_of_beq h), fun h0 => ⟨fun h20 => ?_, fun h => .many (by have := of_decide_eq_false h; omega)⟩⟩

  have h0 : x0 ≠ 0 := by simpa using h0

  have h20 := of_decide_eq_true h20

  have hr : 1 ≤ x0 ∧ x0 ≤ 20 := ⟨by omega, h20⟩

  refine ⟨avI (Cols.mk f0 f1 f2 f3 f4 f5 f6 f7 f8 f9) x0, fun i _ _ _ _ _ _ => (x0 - i).toNat, ⟨⟨by omega, by omega⟩, fun j a b => by omega, rfl, rfl, rfl, rfl, rfl, rfl⟩, ?_⟩

  rintro i a b c d e f ⟨hi, ho, ha, hb, hc, hd, he, hf⟩

  subst ha hb hc hd he hf

  dsimp only at ho ⊢

  have z1 : (-9223372036854775808) ≤ f1 0 ∧ f1 0 ≤ 9223372036854775807 := s1 0

  have z2 : (-9223372036854775808) ≤ f2 0 ∧ f2 0 ≤ 9223372036854775807 := s2 0

  have z3 : (-9223372036854775808) ≤ f3 0 ∧ f3 0 ≤ 9223372036854775807 := s3 0

  have z4 : (-9223372036854775808) ≤ f4 0 ∧ f4 0 ≤ 9223372036854775807 := s4 0

  have z5 : (-9223372036854775808) ≤ f5 0 ∧ f5 0 ≤ 9223372036854775807 := s5 0

  have z6 : (-9223372036854775808) ≤ f6 0 ∧ f6 0 ≤ 9223372036854775807 := s6 0

  have z7 : (-9223372036854775808) ≤ f7 0 ∧ f7 0 ≤ 9223372036854775807 := s7 0

  have z8 : (-9223372036854775808) ≤ f8 0 ∧ f8 0 ≤ 9223372036854775807 := s8 0

  have z9 : (-9223372036854775808) ≤ f9 0 ∧ f9 0 ≤ 9223372036854775807 := s9 0

  have y4 : (-9223372036854775808) ≤ rlo f4 i.toNat ∧ rlo f4 i.toNat ≤ 9223372036854775807 := rlo_i s4 i.toNat

  have y5 : (-9223372036854775808) ≤ rhi f5 i.toNat ∧ rhi f5 i.toNat ≤ 9223372036854775807 := rhi_i s5 i.toNat

  have y6 : (-9223372036854775808) ≤ rlo f6 i.toNat ∧ rlo f6 i.toNat ≤ 9223372036854775807 := rlo_i s6 i.toNat

  have y7 : (-9223372036854775808) ≤ rhi f7 i.toNat ∧ rhi f7 i.toNat ≤ 9223372036854775807 := rhi_i s7 i.toNat

  have y8 : (-9223372036854775808) ≤ rlo f8 i.toNat ∧ rlo f8 i.toNat ≤ 9223372036854775807 := rlo_i s8 i.toNat

  have y9 : (-9223372036854775808) ≤ rhi f9 i.toNat ∧ rhi f9 i.toNat ≤ 9223372036854775807 := rhi_i s9 i.toNat

  have i4 := rlo_i s4 i.toNat

  have i5 := rhi_i s5 i.toNat

  have i6 := rlo_i s6 i.toNat

  have i7 := rhi_i s7 i.toNat

  have i8 := rlo_i s8 i.toNat

  have i9 := rhi_i s9 i.toNat

  refine ⟨⟨hi.1, by omega⟩, i4, i5, i6, i7, i8, i9, fun h => ⟨i4, i5, i6, i7, i8, i9, ?_⟩, fun h => ?_⟩

  · have h := of_decide_eq_true h

    have : i = x0 := by omega

    subst this

    exact .fine hr ho

  have h := of_decide_eq_false h

  obtain ⟨u, hu, us⟩ := isName_p (f0 i)

  have er := checkReading_p us (s1 i) (s2 i) (s3 i) (s4 i) (s5 i) (s6 i) (s7 i) (s8 i) (s9 i)

  have eN : erN (Cols.mk f0 f1 f2 f3 f4 f5 f6 f7 f8 f9) i (rdE u (f1 i) (f2 i) (f3 i) (f4 i) (f5 i) (f6 i) (f7 i) (f8 i) (f9 i)) := ⟨u, hu, rfl⟩

  generalize rdE u (f1 i) (f2 i) (f3 i) (f4 i) (f5 i) (f6 i) (f7 i) (f8 i) (f9 i) = er0 at *

  have b1 : er0 ≠ 0 → avIs (Cols.mk f0 f1 f2 f3 f4 f5 f6 f7 f8 f9) x0 [0, 0, 0, 0, 0, 0, 0, 0, 0, 0, i, er0] := fun z => .bad hr ⟨hi.1, by omega⟩ ho (.inl ⟨eN, z⟩)

  have b2 : er0 = 0 → ¬ alike (Cols.mk f0 f1 f2 f3 f4 f5 f6 f7 f8 f9) i → avIs (Cols.mk f0 f1 f2 f3 f4 f5 f6 f7 f8 f9) x0 [0, 0, 0, 0, 0, 0, 0, 0, 0, 0, i, 25] := fun z n => .bad hr ⟨hi.1, by omega⟩ ho (.inr (.inl ⟨z ▸ eN, n, rfl⟩))

  have b3 : er0 = 0 → alike (Cols.mk f0 f1 f2 f3 f4 f5 f6 f7 f8 f9) i → ¬ meets (Cols.mk f0 f1 f2 f3 f4 f5 f6 f7 f8 f9) i → avIs (Cols.mk f0 f1 f2 f3 f4 f5 f6 f7 f8 f9) x0 [0, 0, 0, 0, 0, 0, 0, 0, 0, 0, i, 14] := fun z al n => .bad hr ⟨hi.1, by omega⟩ ho (.inr (.inr ⟨z ▸ eN, al, n, rfl⟩))

  have ok : er0 = 0 → alike (Cols.mk f0 f1 f2 f3 f4 f5 f6 f7 f8 f9) i → meets (Cols.mk f0 f1 f2 f3 f4 f5 f6 f7 f8 f9) i → avI (Cols.mk f0 f1 f2 f3 f4 f5 f6 f7 f8 f9) x0 (i + 1) (rlo f4 (i + 1).toNat) (rhi f5 (i + 1).toNat) (rlo f6 (i + 1).toNat) (rhi f7 (i + 1).toNat) (rlo f8 (i + 1).toNat) (rhi f9 (i + 1).toNat) ∧ (x0 - (i + 1)).toNat < (x0 - i).toNat := fun z al me => ⟨⟨⟨by omega, by omega⟩, fun j a b => by

    by_cases e : j = i

    · subst e; exact ⟨z ▸ eN, al, me⟩

    · exact ho j a (by omega), rfl, rfl, rfl, rfl, rfl, rfl⟩, by omega⟩

  have l4 : (if f4 i > rlo f4 i.toNat then f4 i else rlo f4 i.toNat) = rlo f4 (i + 1).toNat := (rlo_next hi.1).symm

  have l5 : (if f5 i < rhi f5 i.toNat then f5 i else rhi f5 i.toNat) = rhi f5 (i + 1).toNat := (rhi_next hi.1).symm

  have l6 : (if f6 i > rlo f6 i.toNat then f6 i else rlo f6 i.toNat) = rlo f6 (i + 1).toNat := (rlo_next hi.1).symm

  have l7 : (if f7 i < rhi f7 i.toNat then f7 i else rhi f7 i.toNat) = rhi f7 (i + 1).toNat := (rhi_next hi.1).symm

  have l8 : (if f8 i > rlo f8 i.toNat then f8 i else rlo f8 i.toNat) = rlo f8 (i + 1).toNat := (rlo_next hi.1).symm

  have l9 : (if f9 i < rhi f9 i.toNat then f9 i else rhi f9 i.toNat) = rhi f9 (i + 1).toNat := (rhi_next hi.1).symm

  have g2 : I64 er0 := b_i eN

  simp only [alike, meets] at ok b2 b3

  rw [l4, l5, l6, l7, l8, l9]

  refine ⟨_, er, ?_⟩

  simp only [decide_eq_true_eq, decide_eq_false_iff_not, beq_iff_eq, beq_eq_false_iff_ne, ne_eq]

  clear l4 l5 l6 l7 l8 l9

  repeat' (first | (refine ⟨fun _ => ?_, fun _ => ?_⟩) | exact ok (by omega) (by omega) (by omega) | apply And.intro | exact b1 (by omega) | exact b2 (by omega) (by omega) | exact b3 (by omega) (by omega) (by omega) | assumption | trivial | omega | intro _)

set_option maxHeartbeats 2000000 in

theorem averaged_r {x0 : Int} {f0 f1 f2 f3 f4 f5 f6 f7 f8 f9 : Int → Int} (r0 : 0 ≤ x0 ∧ x0 ≤ 22) (s1 : ∀ q, I64 (f1 q)) (s2 : ∀ q, I64 (f2 q)) (s3 : ∀ q, I64 (f3 q)) (s4 : ∀ q, I64 (f4 q)) (s5 : ∀ q, I64 (f5 q)) (s6 : ∀ q, I64 (f6 q)) (s7 : ∀ q, I64 (f7 q)) (s8 : ∀ q, I64 (f8 q)) (s9 : ∀ q, I64 (f9 q)) :

    ∃ v0 v1 v2 v3 v4 v5 v6 v7 v8 v9 k e : Int, avIs (Cols.mk f0 f1 f2 f3 f4 f5 f6 f7 f8 f9) x0 [v0, v1, v2, v3, v4, v5, v6, v7, v8, v9, k, e] ∧ Spec Try.prog etalonref06_Averaged_s ⟨[x0], [], [f0, f1, f2, f3, f4, f5, f6, f7, f8, f9]⟩ [v0, v1, v2, v3, v4, v5, v6, v7, v8, v9, k, e] [] [] := by

  refine mrv r0 s1 s2 s3 s4 s5 s6 s7 s8 s9 (R := fun v0 v1 v2 v3 v4 v5 v6 v7 v8 v9 k e => avIs (Cols.mk f0 f1 f2 f3 f4 f5 f6 f7 f8 f9) x0 [v0, v1, v2, v3, v4, v5, v6, v7, v8, v9, k, e]) ⟨fun h => .nothing (eq_of_beq h), fun h0 => ⟨fun h20 => ?_, fun h => .many (by have := of_decide_eq_false h; omega)⟩⟩

  have h0 : x0 ≠ 0 := by simpa using h0

  have h20 := of_decide_eq_true h20

  have hr : 1 ≤ x0 ∧ x0 ≤ 20 := ⟨by omega, h20⟩

  refine ⟨avI (Cols.mk f0 f1 f2 f3 f4 f5 f6 f7 f8 f9) x0, fun i _ _ _ _ _ _ => (x0 - i).toNat, ⟨⟨by omega, by omega⟩, fun j a b => by omega, rfl, rfl, rfl, rfl, rfl, rfl⟩, ?_⟩

  rintro i a b c d e f ⟨hi, ho, ha, hb, hc, hd, he, hf⟩

  subst ha hb hc hd he hf

  dsimp only at ho ⊢

  have z1 : (-9223372036854775808) ≤ f1 0 ∧ f1 0 ≤ 9223372036854775807 := s1 0

  have z2 : (-9223372036854775808) ≤ f2 0 ∧ f2 0 ≤ 9223372036854775807 := s2 0

  have z3 : (-9223372036854775808) ≤ f3 0 ∧ f3 0 ≤ 9223372036854775807 := s3 0

  have z4 : (-9223372036854775808) ≤ f4 0 ∧ f4 0 ≤ 9223372036854775807 := s4 0

  have z5 : (-9223372036854775808) ≤ f5 0 ∧ f5 0 ≤ 9223372036854775807 := s5 0

  have z6 : (-9223372036854775808) ≤ f6 0 ∧ f6 0 ≤ 9223372036854775807 := s6 0

  have z7 : (-9223372036854775808) ≤ f7 0 ∧ f7 0 ≤ 9223372036854775807 := s7 0

  have z8 : (-9223372036854775808) ≤ f8 0 ∧ f8 0 ≤ 9223372036854775807 := s8 0

  have z9 : (-9223372036854775808) ≤ f9 0 ∧ f9 0 ≤ 9223372036854775807 := s9 0

  have y4 : (-9223372036854775808) ≤ rlo f4 i.toNat ∧ rlo f4 i.toNat ≤ 9223372036854775807 := rlo_i s4 i.toNat

  have y5 : (-9223372036854775808) ≤ rhi f5 i.toNat ∧ rhi f5 i.toNat ≤ 9223372036854775807 := rhi_i s5 i.toNat

  have y6 : (-9223372036854775808) ≤ rlo f6 i.toNat ∧ rlo f6 i.toNat ≤ 9223372036854775807 := rlo_i s6 i.toNat

  have y7 : (-9223372036854775808) ≤ rhi f7 i.toNat ∧ rhi f7 i.toNat ≤ 9223372036854775807 := rhi_i s7 i.toNat

  have y8 : (-9223372036854775808) ≤ rlo f8 i.toNat ∧ rlo f8 i.toNat ≤ 9223372036854775807 := rlo_i s8 i.toNat

  have y9 : (-9223372036854775808) ≤ rhi f9 i.toNat ∧ rhi f9 i.toNat ≤ 9223372036854775807 := rhi_i s9 i.toNat

  have i4 := rlo_i s4 i.toNat

  have i5 := rhi_i s5 i.toNat

  have i6 := rlo_i s6 i.toNat

  have i7 := rhi_i s7 i.toNat

  have i8 := rlo_i s8 i.toNat

  have i9 := rhi_i s9 i.toNat

  refine ⟨⟨hi.1, by omega⟩, i4, i5, i6, i7, i8, i9, fun h => ⟨i4, i5, i6, i7, i8, i9, ?_⟩, fun h => ?_⟩

  · have h := of_decide_eq_true h

    have : i = x0 := by omega

    subst this

    exact .fine hr ho

  have h := of_decide_eq_false h

  obtain ⟨u, hu, us⟩ := isName_r (f0 i)

  have er := checkReading_r us (s1 i) (s2 i) (s3 i) (s4 i) (s5 i) (s6 i) (s7 i) (s8 i) (s9 i)

  have eN : erN (Cols.mk f0 f1 f2 f3 f4 f5 f6 f7 f8 f9) i (rdE u (f1 i) (f2 i) (f3 i) (f4 i) (f5 i) (f6 i) (f7 i) (f8 i) (f9 i)) := ⟨u, hu, rfl⟩

  generalize rdE u (f1 i) (f2 i) (f3 i) (f4 i) (f5 i) (f6 i) (f7 i) (f8 i) (f9 i) = er0 at *

  have b1 : er0 ≠ 0 → avIs (Cols.mk f0 f1 f2 f3 f4 f5 f6 f7 f8 f9) x0 [0, 0, 0, 0, 0, 0, 0, 0, 0, 0, i, er0] := fun z => .bad hr ⟨hi.1, by omega⟩ ho (.inl ⟨eN, z⟩)

  have b2 : er0 = 0 → ¬ alike (Cols.mk f0 f1 f2 f3 f4 f5 f6 f7 f8 f9) i → avIs (Cols.mk f0 f1 f2 f3 f4 f5 f6 f7 f8 f9) x0 [0, 0, 0, 0, 0, 0, 0, 0, 0, 0, i, 25] := fun z n => .bad hr ⟨hi.1, by omega⟩ ho (.inr (.inl ⟨z ▸ eN, n, rfl⟩))

  have b3 : er0 = 0 → alike (Cols.mk f0 f1 f2 f3 f4 f5 f6 f7 f8 f9) i → ¬ meets (Cols.mk f0 f1 f2 f3 f4 f5 f6 f7 f8 f9) i → avIs (Cols.mk f0 f1 f2 f3 f4 f5 f6 f7 f8 f9) x0 [0, 0, 0, 0, 0, 0, 0, 0, 0, 0, i, 14] := fun z al n => .bad hr ⟨hi.1, by omega⟩ ho (.inr (.inr ⟨z ▸ eN, al, n, rfl⟩))

  have ok : er0 = 0 → alike (Cols.mk f0 f1 f2 f3 f4 f5 f6 f7 f8 f9) i → meets (Cols.mk f0 f1 f2 f3 f4 f5 f6 f7 f8 f9) i → avI (Cols.mk f0 f1 f2 f3 f4 f5 f6 f7 f8 f9) x0 (i + 1) (rlo f4 (i + 1).toNat) (rhi f5 (i + 1).toNat) (rlo f6 (i + 1).toNat) (rhi f7 (i + 1).toNat) (rlo f8 (i + 1).toNat) (rhi f9 (i + 1).toNat) ∧ (x0 - (i + 1)).toNat < (x0 - i).toNat := fun z al me => ⟨⟨⟨by omega, by omega⟩, fun j a b => by

    by_cases e : j = i

    · subst e; exact ⟨z ▸ eN, al, me⟩

    · exact ho j a (by omega), rfl, rfl, rfl, rfl, rfl, rfl⟩, by omega⟩

  have l4 : (if f4 i > rlo f4 i.toNat then f4 i else rlo f4 i.toNat) = rlo f4 (i + 1).toNat := (rlo_next hi.1).symm

  have l5 : (if f5 i < rhi f5 i.toNat then f5 i else rhi f5 i.toNat) = rhi f5 (i + 1).toNat := (rhi_next hi.1).symm

  have l6 : (if f6 i > rlo f6 i.toNat then f6 i else rlo f6 i.toNat) = rlo f6 (i + 1).toNat := (rlo_next hi.1).symm

  have l7 : (if f7 i < rhi f7 i.toNat then f7 i else rhi f7 i.toNat) = rhi f7 (i + 1).toNat := (rhi_next hi.1).symm

  have l8 : (if f8 i > rlo f8 i.toNat then f8 i else rlo f8 i.toNat) = rlo f8 (i + 1).toNat := (rlo_next hi.1).symm

  have l9 : (if f9 i < rhi f9 i.toNat then f9 i else rhi f9 i.toNat) = rhi f9 (i + 1).toNat := (rhi_next hi.1).symm

  have g2 : I64 er0 := b_i eN

  simp only [alike, meets] at ok b2 b3

  refine ⟨_, er, fun z => ⟨fun a1 => ⟨fun a2 => ⟨fun a3 => ⟨_, _, _, common_s i4 i5 (s4 i) (s5 i), _, _, _, common_s i6 i7 (s6 i) (s7 i), _, _, _, common_s i8 i9 (s8 i) (s9 i), ?_⟩, ?_⟩, ?_⟩, ?_⟩, ?_⟩

  · rw [l4, l5, l6, l7, l8, l9]

    clear l4 l5 l6 l7 l8 l9

    simp only [decide_eq_true_eq, decide_eq_false_iff_not, beq_iff_eq, beq_eq_false_iff_ne, ne_eq] at *

    repeat' (first | (refine ⟨fun _ => ?_, fun _ => ?_⟩) | exact ok (by omega) (by omega) (by omega) | apply And.intro | exact b1 (by omega) | exact b2 (by omega) (by omega) | exact b3 (by omega) (by omega) (by omega) | assumption | trivial | omega | intro _)

  all_goals

    clear l4 l5 l6 l7 l8 l9

    simp only [decide_eq_true_eq, decide_eq_false_iff_not, beq_iff_eq, beq_eq_false_iff_ne, ne_eq] at *

    repeat' (first | (refine ⟨fun _ => ?_, fun _ => ?_⟩) | exact ok (by omega) (by omega) (by omega) | apply And.intro | exact b1 (by omega) | exact b2 (by omega) (by omega) | exact b3 (by omega) (by omega) (by omega) | assumption | trivial | omega | intro _)

theorem avIs_fine {C : Cols} {x0 v0 v1 v2 v3 v4 v5 v6 v7 v8 v9 k : Int} (h : avIs C x0 [v0, v1, v2, v3, v4, v5, v6, v7, v8, v9, k, 0]) : v4 = rlo C.c4 x0.toNat ∧ v5 = rhi C.c5 x0.toNat ∧ v6 = rlo C.c6 x0.toNat ∧ v7 = rhi C.c7 x0.toNat ∧ v8 = rlo C.c8 x0.toNat ∧ v9 = rhi C.c9 x0.toNat := by

  generalize hl : [v0, v1, v2, v3, v4, v5, v6, v7, v8, v9, k, (0 : Int)] = l at h

  cases h with

  | nothing _ => simp at hl

  | many _ => simp at hl

  | bad _ _ _ b =>

    simp only [List.cons.injEq, and_true] at hl

    exact absurd hl.2.2.2.2.2.2.2.2.2.2.2.symm b.no.2

  | fine _ _ =>

    simp only [List.cons.injEq, and_true] at hl

    exact ⟨hl.2.2.2.2.1, hl.2.2.2.2.2.1, hl.2.2.2.2.2.2.1, hl.2.2.2.2.2.2.2.1, hl.2.2.2.2.2.2.2.2.1, hl.2.2.2.2.2.2.2.2.2.1⟩

theorem averages {x0 : Int} {f0 f1 f2 f3 f4 f5 f6 f7 f8 f9 : Int → Int} (r0 : 0 ≤ x0 ∧ x0 ≤ 9223372036854775807) (s1 : ∀ q, (-9223372036854775808) ≤ f1 q ∧ f1 q ≤ 9223372036854775807) (s2 : ∀ q, (-9223372036854775808) ≤ f2 q ∧ f2 q ≤ 9223372036854775807) (s3 : ∀ q, (-9223372036854775808) ≤ f3 q ∧ f3 q ≤ 9223372036854775807) (s4 : ∀ q, (-9223372036854775808) ≤ f4 q ∧ f4 q ≤ 9223372036854775807) (s5 : ∀ q, (-9223372036854775808) ≤ f5 q ∧ f5 q ≤ 9223372036854775807) (s6 : ∀ q, (-9223372036854775808) ≤ f6 q ∧ f6 q ≤ 9223372036854775807) (s7 : ∀ q, (-9223372036854775808) ≤ f7 q ∧ f7 q ≤ 9223372036854775807) (s8 : ∀ q, (-9223372036854775808) ≤ f8 q ∧ f8 q ≤ 9223372036854775807) (s9 : ∀ q, (-9223372036854775808) ≤ f9 q ∧ f9 q ≤ 9223372036854775807) : Spec Try.prog etalonlaw06_MeterAverages_s ⟨[x0], [], [f0, f1, f2, f3, f4, f5, f6, f7, f8, f9]⟩ [] [true] [] := by

  obtain ⟨a0, rfl, ha⟩ := awake

  suffices hh : ∃ b : Bool, b = true ∧ Spec Try.prog etalonlaw06_MeterAverages_s ⟨[x0], [], [f0, f1, f2, f3, f4, f5, f6, f7, f8, f9]⟩ [] [b] [] by

    obtain ⟨b, rfl, hs⟩ := hh

    exact hs

  have no : ∀ {a : Int} {P : Prop}, (a == a) = false → P := fun h => by simp at h

  refine mla r0 s1 s2 s3 s4 s5 s6 s7 s8 s9 (R := (· = true)) ⟨true, ha, fun _ => ⟨fun h6 => ?_, fun h6 => ⟨fun _ => rfl, fun h20 => ⟨fun h22 => ?_, fun _ => rfl⟩⟩⟩, fun h => by cases h⟩

  · have h6 := of_decide_eq_true h6

    obtain ⟨v0, v1, v2, v3, v4, v5, v6, v7, v8, v9, k, e, ha1, hp⟩ := averaged_p (f0 := f0) (x0 := x0) ⟨r0.1, by omega⟩ s1 s2 s3 s4 s5 s6 s7 s8 s9

    obtain ⟨w0, w1, w2, w3, w4, w5, w6, w7, w8, w9, k', e', ha2, hq⟩ := averaged_r (f0 := f0) (x0 := x0) ⟨r0.1, by omega⟩ s1 s2 s3 s4 s5 s6 s7 s8 s9

    have eq := avIs_uniq ha1 ha2

    simp only [List.cons.injEq, and_true] at eq

    obtain ⟨rfl, rfl, rfl, rfl, rfl, rfl, rfl, rfl, rfl, rfl, rfl, rfl⟩ := eq

    refine ⟨fun i => 0 ≤ i ∧ i ≤ x0, fun i => (x0 - i).toNat, ⟨by omega, by omega⟩, fun i hi => ⟨⟨by omega, by omega⟩, fun h1 => ⟨_, _, _, _, _, _, _, _, _, _, _, _, hp, _, _, _, _, _, _, _, _, _, _, _, _, hq, ?_⟩, fun h1 => ⟨fun _ => ⟨⟨by omega, by have := of_decide_eq_false h1; omega⟩, ?_⟩, fun _ => rfl⟩⟩⟩

    · refine ⟨fun _ => ⟨fun _ => ⟨fun _ => ⟨fun _ => ⟨fun _ => ⟨fun _ => ⟨fun _ => ⟨fun _ => ⟨fun _ => ⟨fun _ => ⟨fun _ => ⟨fun _ => ?_, no⟩, no⟩, no⟩, no⟩, no⟩, no⟩, no⟩, no⟩, no⟩, no⟩, no⟩, no⟩

      refine ⟨fun i => 0 ≤ i ∧ i ≤ x0, fun i => (x0 - i).toNat, ⟨by omega, by omega⟩, fun j hj => ⟨⟨by omega, by omega⟩, fun _ => rfl, fun h2 => ⟨fun he => ?_, fun _ => rfl⟩⟩⟩

      have he : e = 0 := eq_of_beq he

      subst he

      have h2 := of_decide_eq_false h2

      have lt : j.toNat < x0.toNat := by omega

      have ej : ((j.toNat : Nat) : Int) = j := by omega

      obtain ⟨rfl, rfl, rfl, rfl, rfl, rfl⟩ := avIs_fine ha1

      have g4 := rlo_ge (f := f4) lt

      have g5 := rhi_le (f := f5) lt

      have g6 := rlo_ge (f := f6) lt

      have g7 := rhi_le (f := f7) lt

      have g8 := rlo_ge (f := f8) lt

      have g9 := rhi_le (f := f9) lt

      rw [ej] at g4 g5 g6 g7 g8 g9

      exact ⟨_, inside_s (rlo_i s4 _) (rhi_i s5 _) (s4 j) (s5 j) g4 g5, fun _ => ⟨_, inside_s (rlo_i s6 _) (rhi_i s7 _) (s6 j) (s7 j) g6 g7, fun _ => ⟨_, inside_s (rlo_i s8 _) (rhi_i s9 _) (s8 j) (s9 j) g8 g9, fun _ => ⟨⟨by omega, by omega⟩, by show (x0 - (j + 1)).toNat < (x0 - j).toNat; omega⟩, fun h => by cases h⟩, fun h => by cases h⟩, fun h => by cases h⟩

    · have := of_decide_eq_false h1

      show (x0 - (i + 1)).toNat < (x0 - i).toNat; omega

  · have h6 := of_decide_eq_true h22

    obtain ⟨v0, v1, v2, v3, v4, v5, v6, v7, v8, v9, k, e, ha1, hp⟩ := averaged_p (f0 := f0) (x0 := x0) ⟨r0.1, by omega⟩ s1 s2 s3 s4 s5 s6 s7 s8 s9

    obtain ⟨w0, w1, w2, w3, w4, w5, w6, w7, w8, w9, k', e', ha2, hq⟩ := averaged_r (f0 := f0) (x0 := x0) ⟨r0.1, by omega⟩ s1 s2 s3 s4 s5 s6 s7 s8 s9

    have eq := avIs_uniq ha1 ha2

    simp only [List.cons.injEq, and_true] at eq

    obtain ⟨rfl, rfl, rfl, rfl, rfl, rfl, rfl, rfl, rfl, rfl, rfl, rfl⟩ := eq

    refine ⟨fun i => 0 ≤ i ∧ i ≤ x0, fun i => (x0 - i).toNat, ⟨by omega, by omega⟩, fun i hi => ⟨⟨by omega, by omega⟩, fun h1 => ⟨_, _, _, _, _, _, _, _, _, _, _, _, hp, _, _, _, _, _, _, _, _, _, _, _, _, hq, ?_⟩, fun h1 => ⟨fun _ => ⟨⟨by omega, by have := of_decide_eq_false h1; omega⟩, ?_⟩, fun _ => rfl⟩⟩⟩

    · refine ⟨fun _ => ⟨fun _ => ⟨fun _ => ⟨fun _ => ⟨fun _ => ⟨fun _ => ⟨fun _ => ⟨fun _ => ⟨fun _ => ⟨fun _ => ⟨fun _ => ⟨fun _ => ?_, no⟩, no⟩, no⟩, no⟩, no⟩, no⟩, no⟩, no⟩, no⟩, no⟩, no⟩, no⟩

      refine ⟨fun i => 0 ≤ i ∧ i ≤ x0, fun i => (x0 - i).toNat, ⟨by omega, by omega⟩, fun j hj => ⟨⟨by omega, by omega⟩, fun _ => rfl, fun h2 => ⟨fun he => ?_, fun _ => rfl⟩⟩⟩

      have he : e = 0 := eq_of_beq he

      subst he

      have h2 := of_decide_eq_false h2

      have lt : j.toNat < x0.toNat := by omega

      have ej : ((j.toNat : Nat) : Int) = j := by omega

      obtain ⟨rfl, rfl, rfl, rfl, rfl, rfl⟩ := avIs_fine ha1

      have g4 := rlo_ge (f := f4) lt

      have g5 := rhi_le (f := f5) lt

      have g6 := rlo_ge (f := f6) lt

      have g7 := rhi_le (f := f7) lt

      have g8 := rlo_ge (f := f8) lt

      have g9 := rhi_le (f := f9) lt

      rw [ej] at g4 g5 g6 g7 g8 g9

      exact ⟨_, inside_s (rlo_i s4 _) (rhi_i s5 _) (s4 j) (s5 j) g4 g5, fun _ => ⟨_, inside_s (rlo_i s6 _) (rhi_i s7 _) (s6 j) (s7 j) g6 g7, fun _ => ⟨_, inside_s (rlo_i s8 _) (rhi_i s9 _) (s8 j) (s9 j) g8 g9, fun _ => ⟨⟨by omega, by omega⟩, by show (x0 - (j + 1)).toNat < (x0 - j).toNat; omega⟩, fun h => by cases h⟩, fun h => by cases h⟩, fun h => by cases h⟩

    · have := of_decide_eq_false h1

      show (x0 - (i + 1)).toNat < (x0 - i).toNat; omega

end Go.Proofs.Ytfpaljiiiohmnaa.Ev
