/- Readings: which error the program tells. -/
import Derived.Test.YtafnplkablkepaaFre
import Derived.Test.YtafnplkablkepaaFnm
namespace Go.Proofs.Ytafnplkablkepaa.Ev
set_option linter.unusedSimpArgs false
open Go Go.RowKit
set_option linter.unusedVariables false
set_option maxRecDepth 100000
def meter_CheckReading_s : Sig := ⟨61, ⟨10, 0, 0⟩, ⟨1, 0, 0⟩, [(.agg [(.strn (.var 0)), (.int .i64 (.var 1)), (.int .i64 (.var 2)), (.int .i64 (.var 3)), (.int .i64 (.var 4)), (.int .i64 (.var 5)), (.int .i64 (.var 6)), (.int .i64 (.var 7)), (.int .i64 (.var 8)), (.int .i64 (.var 9))])], [], (.int .i64 (.var 10)), []⟩

def cr_t : Tr :=
  (.call text_IsName_s ⟨[(.var 0)], [], []⟩ ⟨[(.var 0)], [(.var 0)], []⟩ ⟨69, [(.strn (.var 0))], [], [none, none], (.bool (.var 0)), []⟩
  (.ite (.var 0)
  (.ite (.icmp .leq (.lit 1000) (.var 1))
   (.ite (.icmp .leq (.var 1) (.lit 200000))
    (.ite (.icmp .leq (.lit 5000) (.var 2))
     (.ite (.icmp .leq (.var 2) (.lit 80000))
      (.ite (.icmp .leq (.lit 0) (.var 3))
       (.ite (.icmp .leq (.var 3) (.lit 9999))
        (.call span_Check_s ⟨[(.var 4), (.var 5), (.lit (-1048576)), (.lit 1048576)], [], []⟩ ⟨[(.var 4), (.var 5), (.lit (-1048576)), (.lit 1048576), (.var 10)], [], []⟩ ⟨70, [(.agg [(.int .i64 (.var 4)), (.int .i64 (.var 5))]), (.int .i64 (.lit (-1048576))), (.int .i64 (.lit 1048576))], [], [none], (.int .i64 (.var 10)), []⟩
         (.call span_Check_s ⟨[(.var 6), (.var 7), (.lit (-1048576)), (.lit 1048576)], [], []⟩ ⟨[(.var 6), (.var 7), (.lit (-1048576)), (.lit 1048576), (.var 11)], [], []⟩ ⟨70, [(.agg [(.int .i64 (.var 6)), (.int .i64 (.var 7))]), (.int .i64 (.lit (-1048576))), (.int .i64 (.lit 1048576))], [], [none], (.int .i64 (.var 11)), []⟩
         (.call span_Check_s ⟨[(.var 8), (.var 9), (.lit (-1048576)), (.lit 1048576)], [], []⟩ ⟨[(.var 8), (.var 9), (.lit (-1048576)), (.lit 1048576), (.var 12)], [], []⟩ ⟨70, [(.agg [(.int .i64 (.var 8)), (.int .i64 (.var 9))]), (.int .i64 (.lit (-1048576))), (.int .i64 (.lit 1048576))], [], [none], (.int .i64 (.var 12)), []⟩
         (.ite (.icmp .eql (.var 10) (.lit 0))
         (.ite (.icmp .eql (.var 11) (.lit 0))
          (.ite (.icmp .eql (.var 12) (.lit 0))
           (.ret ⟨[(.lit 0)], [], []⟩ [])
           (.ret ⟨[(.var 12)], [], []⟩ []))
          (.ret ⟨[(.var 11)], [], []⟩ []))
         (.ret ⟨[(.var 10)], [], []⟩ [])))))
        (.call span_Check_s ⟨[(.var 4), (.var 5), (.lit (-1048576)), (.lit 1048576)], [], []⟩ ⟨[(.var 4), (.var 5), (.lit (-1048576)), (.lit 1048576), (.var 10)], [], []⟩ ⟨70, [(.agg [(.int .i64 (.var 4)), (.int .i64 (.var 5))]), (.int .i64 (.lit (-1048576))), (.int .i64 (.lit 1048576))], [], [none], (.int .i64 (.var 10)), []⟩
         (.call span_Check_s ⟨[(.var 6), (.var 7), (.lit (-1048576)), (.lit 1048576)], [], []⟩ ⟨[(.var 6), (.var 7), (.lit (-1048576)), (.lit 1048576), (.var 11)], [], []⟩ ⟨70, [(.agg [(.int .i64 (.var 6)), (.int .i64 (.var 7))]), (.int .i64 (.lit (-1048576))), (.int .i64 (.lit 1048576))], [], [none], (.int .i64 (.var 11)), []⟩
         (.call span_Check_s ⟨[(.var 8), (.var 9), (.lit (-1048576)), (.lit 1048576)], [], []⟩ ⟨[(.var 8), (.var 9), (.lit (-1048576)), (.lit 1048576), (.var 12)], [], []⟩ ⟨70, [(.agg [(.int .i64 (.var 8)), (.int .i64 (.var 9))]), (.int .i64 (.lit (-1048576))), (.int .i64 (.lit 1048576))], [], [none], (.int .i64 (.var 12)), []⟩
         (.ret ⟨[(.lit 2)], [], []⟩ [])))))
       (.call span_Check_s ⟨[(.var 4), (.var 5), (.lit (-1048576)), (.lit 1048576)], [], []⟩ ⟨[(.var 4), (.var 5), (.lit (-1048576)), (.lit 1048576), (.var 10)], [], []⟩ ⟨70, [(.agg [(.int .i64 (.var 4)), (.int .i64 (.var 5))]), (.int .i64 (.lit (-1048576))), (.int .i64 (.lit 1048576))], [], [none], (.int .i64 (.var 10)), []⟩
        (.call span_Check_s ⟨[(.var 6), (.var 7), (.lit (-1048576)), (.lit 1048576)], [], []⟩ ⟨[(.var 6), (.var 7), (.lit (-1048576)), (.lit 1048576), (.var 11)], [], []⟩ ⟨70, [(.agg [(.int .i64 (.var 6)), (.int .i64 (.var 7))]), (.int .i64 (.lit (-1048576))), (.int .i64 (.lit 1048576))], [], [none], (.int .i64 (.var 11)), []⟩
        (.call span_Check_s ⟨[(.var 8), (.var 9), (.lit (-1048576)), (.lit 1048576)], [], []⟩ ⟨[(.var 8), (.var 9), (.lit (-1048576)), (.lit 1048576), (.var 12)], [], []⟩ ⟨70, [(.agg [(.int .i64 (.var 8)), (.int .i64 (.var 9))]), (.int .i64 (.lit (-1048576))), (.int .i64 (.lit 1048576))], [], [none], (.int .i64 (.var 12)), []⟩
        (.ret ⟨[(.lit 2)], [], []⟩ [])))))
      (.call span_Check_s ⟨[(.var 4), (.var 5), (.lit (-1048576)), (.lit 1048576)], [], []⟩ ⟨[(.var 4), (.var 5), (.lit (-1048576)), (.lit 1048576), (.var 10)], [], []⟩ ⟨70, [(.agg [(.int .i64 (.var 4)), (.int .i64 (.var 5))]), (.int .i64 (.lit (-1048576))), (.int .i64 (.lit 1048576))], [], [none], (.int .i64 (.var 10)), []⟩
       (.call span_Check_s ⟨[(.var 6), (.var 7), (.lit (-1048576)), (.lit 1048576)], [], []⟩ ⟨[(.var 6), (.var 7), (.lit (-1048576)), (.lit 1048576), (.var 11)], [], []⟩ ⟨70, [(.agg [(.int .i64 (.var 6)), (.int .i64 (.var 7))]), (.int .i64 (.lit (-1048576))), (.int .i64 (.lit 1048576))], [], [none], (.int .i64 (.var 11)), []⟩
       (.call span_Check_s ⟨[(.var 8), (.var 9), (.lit (-1048576)), (.lit 1048576)], [], []⟩ ⟨[(.var 8), (.var 9), (.lit (-1048576)), (.lit 1048576), (.var 12)], [], []⟩ ⟨70, [(.agg [(.int .i64 (.var 8)), (.int .i64 (.var 9))]), (.int .i64 (.lit (-1048576))), (.int .i64 (.lit 1048576))], [], [none], (.int .i64 (.var 12)), []⟩
       (.ret ⟨[(.lit 2)], [], []⟩ [])))))
     (.call span_Check_s ⟨[(.var 4), (.var 5), (.lit (-1048576)), (.lit 1048576)], [], []⟩ ⟨[(.var 4), (.var 5), (.lit (-1048576)), (.lit 1048576), (.var 10)], [], []⟩ ⟨70, [(.agg [(.int .i64 (.var 4)), (.int .i64 (.var 5))]), (.int .i64 (.lit (-1048576))), (.int .i64 (.lit 1048576))], [], [none], (.int .i64 (.var 10)), []⟩
      (.call span_Check_s ⟨[(.var 6), (.var 7), (.lit (-1048576)), (.lit 1048576)], [], []⟩ ⟨[(.var 6), (.var 7), (.lit (-1048576)), (.lit 1048576), (.var 11)], [], []⟩ ⟨70, [(.agg [(.int .i64 (.var 6)), (.int .i64 (.var 7))]), (.int .i64 (.lit (-1048576))), (.int .i64 (.lit 1048576))], [], [none], (.int .i64 (.var 11)), []⟩
      (.call span_Check_s ⟨[(.var 8), (.var 9), (.lit (-1048576)), (.lit 1048576)], [], []⟩ ⟨[(.var 8), (.var 9), (.lit (-1048576)), (.lit 1048576), (.var 12)], [], []⟩ ⟨70, [(.agg [(.int .i64 (.var 8)), (.int .i64 (.var 9))]), (.int .i64 (.lit (-1048576))), (.int .i64 (.lit 1048576))], [], [none], (.int .i64 (.var 12)), []⟩
      (.ret ⟨[(.lit 2)], [], []⟩ [])))))
    (.call span_Check_s ⟨[(.var 4), (.var 5), (.lit (-1048576)), (.lit 1048576)], [], []⟩ ⟨[(.var 4), (.var 5), (.lit (-1048576)), (.lit 1048576), (.var 10)], [], []⟩ ⟨70, [(.agg [(.int .i64 (.var 4)), (.int .i64 (.var 5))]), (.int .i64 (.lit (-1048576))), (.int .i64 (.lit 1048576))], [], [none], (.int .i64 (.var 10)), []⟩
     (.call span_Check_s ⟨[(.var 6), (.var 7), (.lit (-1048576)), (.lit 1048576)], [], []⟩ ⟨[(.var 6), (.var 7), (.lit (-1048576)), (.lit 1048576), (.var 11)], [], []⟩ ⟨70, [(.agg [(.int .i64 (.var 6)), (.int .i64 (.var 7))]), (.int .i64 (.lit (-1048576))), (.int .i64 (.lit 1048576))], [], [none], (.int .i64 (.var 11)), []⟩
     (.call span_Check_s ⟨[(.var 8), (.var 9), (.lit (-1048576)), (.lit 1048576)], [], []⟩ ⟨[(.var 8), (.var 9), (.lit (-1048576)), (.lit 1048576), (.var 12)], [], []⟩ ⟨70, [(.agg [(.int .i64 (.var 8)), (.int .i64 (.var 9))]), (.int .i64 (.lit (-1048576))), (.int .i64 (.lit 1048576))], [], [none], (.int .i64 (.var 12)), []⟩
     (.ret ⟨[(.lit 2)], [], []⟩ [])))))
   (.call span_Check_s ⟨[(.var 4), (.var 5), (.lit (-1048576)), (.lit 1048576)], [], []⟩ ⟨[(.var 4), (.var 5), (.lit (-1048576)), (.lit 1048576), (.var 10)], [], []⟩ ⟨70, [(.agg [(.int .i64 (.var 4)), (.int .i64 (.var 5))]), (.int .i64 (.lit (-1048576))), (.int .i64 (.lit 1048576))], [], [none], (.int .i64 (.var 10)), []⟩
    (.call span_Check_s ⟨[(.var 6), (.var 7), (.lit (-1048576)), (.lit 1048576)], [], []⟩ ⟨[(.var 6), (.var 7), (.lit (-1048576)), (.lit 1048576), (.var 11)], [], []⟩ ⟨70, [(.agg [(.int .i64 (.var 6)), (.int .i64 (.var 7))]), (.int .i64 (.lit (-1048576))), (.int .i64 (.lit 1048576))], [], [none], (.int .i64 (.var 11)), []⟩
    (.call span_Check_s ⟨[(.var 8), (.var 9), (.lit (-1048576)), (.lit 1048576)], [], []⟩ ⟨[(.var 8), (.var 9), (.lit (-1048576)), (.lit 1048576), (.var 12)], [], []⟩ ⟨70, [(.agg [(.int .i64 (.var 8)), (.int .i64 (.var 9))]), (.int .i64 (.lit (-1048576))), (.int .i64 (.lit 1048576))], [], [none], (.int .i64 (.var 12)), []⟩
    (.ret ⟨[(.lit 2)], [], []⟩ [])))))
  (.call span_Check_s ⟨[(.var 4), (.var 5), (.lit (-1048576)), (.lit 1048576)], [], []⟩ ⟨[(.var 4), (.var 5), (.lit (-1048576)), (.lit 1048576), (.var 10)], [], []⟩ ⟨70, [(.agg [(.int .i64 (.var 4)), (.int .i64 (.var 5))]), (.int .i64 (.lit (-1048576))), (.int .i64 (.lit 1048576))], [], [none], (.int .i64 (.var 10)), []⟩
   (.call span_Check_s ⟨[(.var 6), (.var 7), (.lit (-1048576)), (.lit 1048576)], [], []⟩ ⟨[(.var 6), (.var 7), (.lit (-1048576)), (.lit 1048576), (.var 11)], [], []⟩ ⟨70, [(.agg [(.int .i64 (.var 6)), (.int .i64 (.var 7))]), (.int .i64 (.lit (-1048576))), (.int .i64 (.lit 1048576))], [], [none], (.int .i64 (.var 11)), []⟩
   (.call span_Check_s ⟨[(.var 8), (.var 9), (.lit (-1048576)), (.lit 1048576)], [], []⟩ ⟨[(.var 8), (.var 9), (.lit (-1048576)), (.lit 1048576), (.var 12)], [], []⟩ ⟨70, [(.agg [(.int .i64 (.var 8)), (.int .i64 (.var 9))]), (.int .i64 (.lit (-1048576))), (.int .i64 (.lit 1048576))], [], [none], (.int .i64 (.var 12)), []⟩
   (.ret ⟨[(.lit 3)], [], []⟩ []))))))
theorem cr {x0 x1 x2 x3 x4 x5 x6 x7 x8 x9 : Int} (r1 : (-9223372036854775808) ≤ x1 ∧ x1 ≤ 9223372036854775807) (r2 : (-9223372036854775808) ≤ x2 ∧ x2 ≤ 9223372036854775807) (r3 : (-9223372036854775808) ≤ x3 ∧ x3 ≤ 9223372036854775807) (r4 : (-9223372036854775808) ≤ x4 ∧ x4 ≤ 9223372036854775807) (r5 : (-9223372036854775808) ≤ x5 ∧ x5 ≤ 9223372036854775807) (r6 : (-9223372036854775808) ≤ x6 ∧ x6 ≤ 9223372036854775807) (r7 : (-9223372036854775808) ≤ x7 ∧ x7 ≤ 9223372036854775807) (r8 : (-9223372036854775808) ≤ x8 ∧ x8 ≤ 9223372036854775807) (r9 : (-9223372036854775808) ≤ x9 ∧ x9 ≤ 9223372036854775807) {R : Int → Prop}
  (H : (∃ u0 : Bool, Spec Try.prog text_IsName_s ⟨[x0], [], []⟩ [] [u0] [] ∧
   ((u0 = true → ((decide ((1000 : Int) ≤ x1) = true → ((decide ((x1 : Int) ≤ 200000) = true → ((decide ((5000 : Int) ≤ x2) = true → ((decide ((x2 : Int) ≤ 80000) = true → ((decide ((0 : Int) ≤ x3) = true → ((decide ((x3 : Int) ≤ 9999) = true → (∃ v10 : Int, Spec Try.prog span_Check_s ⟨[x4, x5, (-1048576), 1048576], [], []⟩ [v10] [] [] ∧
          (∃ v11 : Int, Spec Try.prog span_Check_s ⟨[x6, x7, (-1048576), 1048576], [], []⟩ [v11] [] [] ∧
          (∃ v12 : Int, Spec Try.prog span_Check_s ⟨[x8, x9, (-1048576), 1048576], [], []⟩ [v12] [] [] ∧
          ((((v10 : Int) == 0) = true → ((((v11 : Int) == 0) = true → ((((v12 : Int) == 0) = true → R (0)) ∧
            (((v12 : Int) == 0) = false → R (v12)))) ∧
           (((v11 : Int) == 0) = false → R (v11)))) ∧
          (((v10 : Int) == 0) = false → R (v10))))))) ∧
         (decide ((x3 : Int) ≤ 9999) = false → (∃ v10 : Int, Spec Try.prog span_Check_s ⟨[x4, x5, (-1048576), 1048576], [], []⟩ [v10] [] [] ∧
          (∃ v11 : Int, Spec Try.prog span_Check_s ⟨[x6, x7, (-1048576), 1048576], [], []⟩ [v11] [] [] ∧
          (∃ v12 : Int, Spec Try.prog span_Check_s ⟨[x8, x9, (-1048576), 1048576], [], []⟩ [v12] [] [] ∧
          R (2))))))) ∧
        (decide ((0 : Int) ≤ x3) = false → (∃ v10 : Int, Spec Try.prog span_Check_s ⟨[x4, x5, (-1048576), 1048576], [], []⟩ [v10] [] [] ∧
         (∃ v11 : Int, Spec Try.prog span_Check_s ⟨[x6, x7, (-1048576), 1048576], [], []⟩ [v11] [] [] ∧
         (∃ v12 : Int, Spec Try.prog span_Check_s ⟨[x8, x9, (-1048576), 1048576], [], []⟩ [v12] [] [] ∧
         R (2))))))) ∧
       (decide ((x2 : Int) ≤ 80000) = false → (∃ v10 : Int, Spec Try.prog span_Check_s ⟨[x4, x5, (-1048576), 1048576], [], []⟩ [v10] [] [] ∧
        (∃ v11 : Int, Spec Try.prog span_Check_s ⟨[x6, x7, (-1048576), 1048576], [], []⟩ [v11] [] [] ∧
        (∃ v12 : Int, Spec Try.prog span_Check_s ⟨[x8, x9, (-1048576), 1048576], [], []⟩ [v12] [] [] ∧
        R (2))))))) ∧
      (decide ((5000 : Int) ≤ x2) = false → (∃ v10 : Int, Spec Try.prog span_Check_s ⟨[x4, x5, (-1048576), 1048576], [], []⟩ [v10] [] [] ∧
       (∃ v11 : Int, Spec Try.prog span_Check_s ⟨[x6, x7, (-1048576), 1048576], [], []⟩ [v11] [] [] ∧
       (∃ v12 : Int, Spec Try.prog span_Check_s ⟨[x8, x9, (-1048576), 1048576], [], []⟩ [v12] [] [] ∧
       R (2))))))) ∧
     (decide ((x1 : Int) ≤ 200000) = false → (∃ v10 : Int, Spec Try.prog span_Check_s ⟨[x4, x5, (-1048576), 1048576], [], []⟩ [v10] [] [] ∧
      (∃ v11 : Int, Spec Try.prog span_Check_s ⟨[x6, x7, (-1048576), 1048576], [], []⟩ [v11] [] [] ∧
      (∃ v12 : Int, Spec Try.prog span_Check_s ⟨[x8, x9, (-1048576), 1048576], [], []⟩ [v12] [] [] ∧
      R (2))))))) ∧
    (decide ((1000 : Int) ≤ x1) = false → (∃ v10 : Int, Spec Try.prog span_Check_s ⟨[x4, x5, (-1048576), 1048576], [], []⟩ [v10] [] [] ∧
     (∃ v11 : Int, Spec Try.prog span_Check_s ⟨[x6, x7, (-1048576), 1048576], [], []⟩ [v11] [] [] ∧
     (∃ v12 : Int, Spec Try.prog span_Check_s ⟨[x8, x9, (-1048576), 1048576], [], []⟩ [v12] [] [] ∧
     R (2))))))) ∧
   (u0 = false → (∃ v10 : Int, Spec Try.prog span_Check_s ⟨[x4, x5, (-1048576), 1048576], [], []⟩ [v10] [] [] ∧
    (∃ v11 : Int, Spec Try.prog span_Check_s ⟨[x6, x7, (-1048576), 1048576], [], []⟩ [v11] [] [] ∧
    (∃ v12 : Int, Spec Try.prog span_Check_s ⟨[x8, x9, (-1048576), 1048576], [], []⟩ [v12] [] [] ∧
    R (3)))))))) :
    ∃ v0 : Int, R v0 ∧ Spec Try.prog meter_CheckReading_s ⟨[x0, x1, x2, x3, x4, x5, x6, x7, x8, x9], [], []⟩ [v0] [] [] :=
  Eq.mp (by kernel_rfl) (exV_of (K := fun d => app3 meter_CheckReading_s.out R d ∧ Spec Try.prog meter_CheckReading_s ⟨[x0, x1, x2, x3, x4, x5, x6, x7, x8, x9], [], []⟩ d.1 d.2.1 d.2.2) (tree_at mixed names S1_ok (S := S1 Try.prog) (lf := 100000) (d := 60) meter_CheckReading_s cr_t { ivs := [(1, (-9223372036854775808), 9223372036854775807), (2, (-9223372036854775808), 9223372036854775807), (3, (-9223372036854775808), 9223372036854775807), (4, (-9223372036854775808), 9223372036854775807), (5, (-9223372036854775808), 9223372036854775807), (6, (-9223372036854775808), 9223372036854775807), (7, (-9223372036854775808), 9223372036854775807), (8, (-9223372036854775808), 9223372036854775807), (9, (-9223372036854775808), 9223372036854775807)], aivs := [] } ⟨[x0, x1, x2, x3, x4, x5, x6, x7, x8, x9], [], []⟩ rfl (by kernel_rfl) (by kernel_rfl) (by kernel_rfl) ⟨(fc r1 (fc r2 (fc r3 (fc r4 (fc r5 (fc r6 (fc r7 (fc r8 (fc r9 fz))))))))), fz, fz, fz⟩ (R := fun d => app3 meter_CheckReading_s.out R d) (Eq.mp (by kernel_rfl) H)))

/-- The error of what stands ahead of the enclosures of a reading. -/

def se (u : Bool) (w i s : Int) : Int := if u then (if 1000 ≤ w ∧ w ≤ 200000 ∧ 5000 ≤ i ∧ i ≤ 80000 ∧ 0 ≤ s ∧ s ≤ 9999 then 0 else 2) else 3

/-- The error of a reading. -/

def rdE (u : Bool) (w i s a b c d e f : Int) : Int := fe (se u w i s) (fe (re (-1048576) 1048576 a b) (fe (re (-1048576) 1048576 c d) (re (-1048576) 1048576 e f)))

theorem se_vals (u : Bool) (w i s : Int) : se u w i s = 0 ∨ se u w i s = 2 ∨ se u w i s = 3 := by

  unfold se; split

  · split <;> simp

  · simp

set_option maxHeartbeats 8000000 in

theorem checkReading_p {x0 x1 x2 x3 x4 x5 x6 x7 x8 x9 : Int} {u : Bool} (hu : Spec Try.prog text_IsName_s ⟨[x0], [], []⟩ [] [u] []) (r1 : I64 x1) (r2 : I64 x2) (r3 : I64 x3) (r4 : I64 x4) (r5 : I64 x5) (r6 : I64 x6) (r7 : I64 x7) (r8 : I64 x8) (r9 : I64 x9) :

    Spec Try.prog meter_CheckReading_s ⟨[x0, x1, x2, x3, x4, x5, x6, x7, x8, x9], [], []⟩ [rdE u x1 x2 x3 x4 x5 x6 x7 x8 x9] [] [] := by

  have hl : I64 (-1048576) := by decide

  have hm : I64 1048576 := by decide

  have h1 := check_s r4 r5 hl hm

  have h2 := check_s r6 r7 hl hm

  have h3 := check_s r8 r9 hl hm

  obtain ⟨v, rfl, hs⟩ : ∃ v : Int, v = rdE u x1 x2 x3 x4 x5 x6 x7 x8 x9 ∧ Spec Try.prog meter_CheckReading_s ⟨[x0, x1, x2, x3, x4, x5, x6, x7, x8, x9], [], []⟩ [v] [] [] := by

    have key : ∀ n : Int, n = rdE u x1 x2 x3 x4 x5 x6 x7 x8 x9 → n = rdE u x1 x2 x3 x4 x5 x6 x7 x8 x9 := fun _ h => h

    refine cr r1 r2 r3 r4 r5 r6 r7 r8 r9 (R := (· = rdE u x1 x2 x3 x4 x5 x6 x7 x8 x9)) ⟨u, hu, ?_⟩

    simp only [decide_eq_true_eq, decide_eq_false_iff_not, beq_iff_eq, beq_eq_false_iff_ne, ne_eq]

    unfold rdE

    generalize re (-1048576) 1048576 x4 x5 = e1 at *

    generalize re (-1048576) 1048576 x6 x7 = e2 at *

    generalize re (-1048576) 1048576 x8 x9 = e3 at *

    repeat' (first

      | refine ⟨_, h1, ?_⟩

      | refine ⟨_, h2, ?_⟩

      | refine ⟨_, h3, ?_⟩

      | apply And.intro

      | intro _

      | fail)

    all_goals (subst_vars; simp only [se, fe]; (repeat' split) <;> first | omega | (simp_all; done) | contradiction)

  exact hs

end Go.Proofs.Ytafnplkablkepaa.Ev
