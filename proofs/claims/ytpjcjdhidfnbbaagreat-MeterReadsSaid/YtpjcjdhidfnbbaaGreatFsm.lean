/- Sums of a scan: which error is told. -/
import Derived.Test.YtpjcjdhidfnbbaaGreatFre
namespace Go.Proofs.YtpjcjdhidfnbbaaGreat.Ev
set_option linter.unusedSimpArgs false
open Go Go.RowKit
set_option linter.unusedVariables false
set_option maxRecDepth 100000
def meter_CheckSums_s : Sig := ⟨11, ⟨6, 0, 0⟩, ⟨1, 0, 0⟩, [(.agg [(.int .i64 (.var 0)), (.int .i64 (.var 1)), (.int .i64 (.var 2)), (.int .i64 (.var 3)), (.int .i64 (.var 4)), (.int .i64 (.var 5))])], [], (.int .i64 (.var 6)), []⟩
def etalonref06_CheckSums_s : Sig := ⟨12, ⟨6, 0, 0⟩, ⟨1, 0, 0⟩, [(.agg [(.int .i64 (.var 0)), (.int .i64 (.var 1)), (.int .i64 (.var 2)), (.int .i64 (.var 3)), (.int .i64 (.var 4)), (.int .i64 (.var 5))])], [], (.int .i64 (.var 6)), []⟩

def kp_t : Tr :=
  (.call span_Check_s ⟨[(.var 0), (.var 1), (.lit (-10000000)), (.lit 10000000)], [], []⟩ ⟨[(.var 0), (.var 1), (.lit (-10000000)), (.lit 10000000), (.var 6)], [], []⟩ ⟨44, [(.agg [(.int .i64 (.var 0)), (.int .i64 (.var 1))]), (.int .i64 (.lit (-10000000))), (.int .i64 (.lit 10000000))], [], [none], (.int .i64 (.var 6)), []⟩
  (.call span_Check_s ⟨[(.var 2), (.var 3), (.lit (-10000000)), (.lit 10000000)], [], []⟩ ⟨[(.var 2), (.var 3), (.lit (-10000000)), (.lit 10000000), (.var 7)], [], []⟩ ⟨44, [(.agg [(.int .i64 (.var 2)), (.int .i64 (.var 3))]), (.int .i64 (.lit (-10000000))), (.int .i64 (.lit 10000000))], [], [none], (.int .i64 (.var 7)), []⟩
  (.call span_Check_s ⟨[(.var 4), (.var 5), (.lit (-10000000)), (.lit 10000000)], [], []⟩ ⟨[(.var 4), (.var 5), (.lit (-10000000)), (.lit 10000000), (.var 8)], [], []⟩ ⟨44, [(.agg [(.int .i64 (.var 4)), (.int .i64 (.var 5))]), (.int .i64 (.lit (-10000000))), (.int .i64 (.lit 10000000))], [], [none], (.int .i64 (.var 8)), []⟩
  (.ite (.icmp .eql (.var 6) (.lit 0))
  (.ite (.icmp .eql (.var 7) (.lit 0))
   (.ite (.icmp .eql (.var 8) (.lit 0))
    (.ret ⟨[(.lit 0)], [], []⟩ [])
    (.ret ⟨[(.var 8)], [], []⟩ []))
   (.ret ⟨[(.var 7)], [], []⟩ []))
  (.ret ⟨[(.var 6)], [], []⟩ [])))))
theorem kp {x0 x1 x2 x3 x4 x5 : Int} (r0 : (-9223372036854775808) ≤ x0 ∧ x0 ≤ 9223372036854775807) (r1 : (-9223372036854775808) ≤ x1 ∧ x1 ≤ 9223372036854775807) (r2 : (-9223372036854775808) ≤ x2 ∧ x2 ≤ 9223372036854775807) (r3 : (-9223372036854775808) ≤ x3 ∧ x3 ≤ 9223372036854775807) (r4 : (-9223372036854775808) ≤ x4 ∧ x4 ≤ 9223372036854775807) (r5 : (-9223372036854775808) ≤ x5 ∧ x5 ≤ 9223372036854775807) {R : Int → Prop}
  (H : (∃ v6 : Int, Spec Tryz.prog span_Check_s ⟨[x0, x1, (-10000000), 10000000], [], []⟩ [v6] [] [] ∧
   (∃ v7 : Int, Spec Tryz.prog span_Check_s ⟨[x2, x3, (-10000000), 10000000], [], []⟩ [v7] [] [] ∧
   (∃ v8 : Int, Spec Tryz.prog span_Check_s ⟨[x4, x5, (-10000000), 10000000], [], []⟩ [v8] [] [] ∧
   ((((v6 : Int) == 0) = true → ((((v7 : Int) == 0) = true → ((((v8 : Int) == 0) = true → R (0)) ∧
     (((v8 : Int) == 0) = false → R (v8)))) ∧
    (((v7 : Int) == 0) = false → R (v7)))) ∧
   (((v6 : Int) == 0) = false → R (v6))))))) :
    ∃ v0 : Int, R v0 ∧ Spec Tryz.prog meter_CheckSums_s ⟨[x0, x1, x2, x3, x4, x5], [], []⟩ [v0] [] [] :=
  Eq.mp (by kernel_rfl) (exV_of (K := fun d => app3 meter_CheckSums_s.out R d ∧ Spec Tryz.prog meter_CheckSums_s ⟨[x0, x1, x2, x3, x4, x5], [], []⟩ d.1 d.2.1 d.2.2) (tree_at mixed names S1_ok (S := S1 Tryz.prog) (lf := 100000) (d := 60) meter_CheckSums_s kp_t { ivs := [(0, (-9223372036854775808), 9223372036854775807), (1, (-9223372036854775808), 9223372036854775807), (2, (-9223372036854775808), 9223372036854775807), (3, (-9223372036854775808), 9223372036854775807), (4, (-9223372036854775808), 9223372036854775807), (5, (-9223372036854775808), 9223372036854775807)], aivs := [] } ⟨[x0, x1, x2, x3, x4, x5], [], []⟩ rfl (by kernel_rfl) (by kernel_rfl) (by kernel_rfl) ⟨(fc r0 (fc r1 (fc r2 (fc r3 (fc r4 (fc r5 fz)))))), fz, fz, fz⟩ (R := fun d => app3 meter_CheckSums_s.out R d) (Eq.mp (by kernel_rfl) H)))

def kr_t : Tr :=
  (.ite (.icmp .leq (.lit (-10000000)) (.var 0))
  (.ite (.icmp .leq (.var 0) (.lit 10000000))
   (.ite (.icmp .leq (.lit (-10000000)) (.var 1))
    (.ite (.icmp .leq (.var 1) (.lit 10000000))
     (.ite (.icmp .leq (.var 0) (.var 1))
      (.ite (.icmp .leq (.lit (-10000000)) (.var 2))
       (.ite (.icmp .leq (.var 2) (.lit 10000000))
        (.ite (.icmp .leq (.lit (-10000000)) (.var 3))
         (.ite (.icmp .leq (.var 3) (.lit 10000000))
          (.ite (.icmp .leq (.var 2) (.var 3))
           (.ite (.icmp .leq (.lit (-10000000)) (.var 4))
            (.ite (.icmp .leq (.var 4) (.lit 10000000))
             (.ite (.icmp .leq (.lit (-10000000)) (.var 5))
              (.ite (.icmp .leq (.var 5) (.lit 10000000))
               (.ite (.icmp .leq (.var 4) (.var 5))
                (.ret ⟨[(.lit 0)], [], []⟩ [])
                (.ret ⟨[(.lit 10)], [], []⟩ []))
               (.ret ⟨[(.lit 2)], [], []⟩ []))
              (.ret ⟨[(.lit 2)], [], []⟩ []))
             (.ret ⟨[(.lit 2)], [], []⟩ []))
            (.ret ⟨[(.lit 2)], [], []⟩ []))
           (.ret ⟨[(.lit 10)], [], []⟩ []))
          (.ret ⟨[(.lit 2)], [], []⟩ []))
         (.ret ⟨[(.lit 2)], [], []⟩ []))
        (.ret ⟨[(.lit 2)], [], []⟩ []))
       (.ret ⟨[(.lit 2)], [], []⟩ []))
      (.ret ⟨[(.lit 10)], [], []⟩ []))
     (.ret ⟨[(.lit 2)], [], []⟩ []))
    (.ret ⟨[(.lit 2)], [], []⟩ []))
   (.ret ⟨[(.lit 2)], [], []⟩ []))
  (.ret ⟨[(.lit 2)], [], []⟩ []))
theorem kr {x0 x1 x2 x3 x4 x5 : Int} (r0 : (-9223372036854775808) ≤ x0 ∧ x0 ≤ 9223372036854775807) (r1 : (-9223372036854775808) ≤ x1 ∧ x1 ≤ 9223372036854775807) (r2 : (-9223372036854775808) ≤ x2 ∧ x2 ≤ 9223372036854775807) (r3 : (-9223372036854775808) ≤ x3 ∧ x3 ≤ 9223372036854775807) (r4 : (-9223372036854775808) ≤ x4 ∧ x4 ≤ 9223372036854775807) (r5 : (-9223372036854775808) ≤ x5 ∧ x5 ≤ 9223372036854775807) {R : Int → Prop}
  (H : ((decide (((-10000000) : Int) ≤ x0) = true → ((decide ((x0 : Int) ≤ 10000000) = true → ((decide (((-10000000) : Int) ≤ x1) = true → ((decide ((x1 : Int) ≤ 10000000) = true → ((decide ((x0 : Int) ≤ x1) = true → ((decide (((-10000000) : Int) ≤ x2) = true → ((decide ((x2 : Int) ≤ 10000000) = true → ((decide (((-10000000) : Int) ≤ x3) = true → ((decide ((x3 : Int) ≤ 10000000) = true → ((decide ((x2 : Int) ≤ x3) = true → ((decide (((-10000000) : Int) ≤ x4) = true → ((decide ((x4 : Int) ≤ 10000000) = true → ((decide (((-10000000) : Int) ≤ x5) = true → ((decide ((x5 : Int) ≤ 10000000) = true → ((decide ((x4 : Int) ≤ x5) = true → R (0)) ∧
                 (decide ((x4 : Int) ≤ x5) = false → R (10)))) ∧
                (decide ((x5 : Int) ≤ 10000000) = false → R (2)))) ∧
               (decide (((-10000000) : Int) ≤ x5) = false → R (2)))) ∧
              (decide ((x4 : Int) ≤ 10000000) = false → R (2)))) ∧
             (decide (((-10000000) : Int) ≤ x4) = false → R (2)))) ∧
            (decide ((x2 : Int) ≤ x3) = false → R (10)))) ∧
           (decide ((x3 : Int) ≤ 10000000) = false → R (2)))) ∧
          (decide (((-10000000) : Int) ≤ x3) = false → R (2)))) ∧
         (decide ((x2 : Int) ≤ 10000000) = false → R (2)))) ∧
        (decide (((-10000000) : Int) ≤ x2) = false → R (2)))) ∧
       (decide ((x0 : Int) ≤ x1) = false → R (10)))) ∧
      (decide ((x1 : Int) ≤ 10000000) = false → R (2)))) ∧
     (decide (((-10000000) : Int) ≤ x1) = false → R (2)))) ∧
    (decide ((x0 : Int) ≤ 10000000) = false → R (2)))) ∧
   (decide (((-10000000) : Int) ≤ x0) = false → R (2)))) :
    ∃ v0 : Int, R v0 ∧ Spec Tryz.prog etalonref06_CheckSums_s ⟨[x0, x1, x2, x3, x4, x5], [], []⟩ [v0] [] [] :=
  Eq.mp (by kernel_rfl) (exV_of (K := fun d => app3 etalonref06_CheckSums_s.out R d ∧ Spec Tryz.prog etalonref06_CheckSums_s ⟨[x0, x1, x2, x3, x4, x5], [], []⟩ d.1 d.2.1 d.2.2) (tree_at mixed names S1_ok (S := S1 Tryz.prog) (lf := 100000) (d := 60) etalonref06_CheckSums_s kr_t { ivs := [(0, (-9223372036854775808), 9223372036854775807), (1, (-9223372036854775808), 9223372036854775807), (2, (-9223372036854775808), 9223372036854775807), (3, (-9223372036854775808), 9223372036854775807), (4, (-9223372036854775808), 9223372036854775807), (5, (-9223372036854775808), 9223372036854775807)], aivs := [] } ⟨[x0, x1, x2, x3, x4, x5], [], []⟩ rfl (by kernel_rfl) (by kernel_rfl) (by kernel_rfl) ⟨(fc r0 (fc r1 (fc r2 (fc r3 (fc r4 (fc r5 fz)))))), fz, fz, fz⟩ (R := fun d => app3 etalonref06_CheckSums_s.out R d) (Eq.mp (by kernel_rfl) H)))

/-- The error of sums. -/

def smE (a b c d e f : Int) : Int := fe (re (-10000000) 10000000 a b) (fe (re (-10000000) 10000000 c d) (re (-10000000) 10000000 e f))

theorem smE_ok {a b c d e f : Int} (h : smE a b c d e f = 0) : (((-10000000) ≤ a ∧ a ≤ 10000000) ∧ ((-10000000) ≤ b ∧ b ≤ 10000000) ∧ a ≤ b) ∧ (((-10000000) ≤ c ∧ c ≤ 10000000) ∧ ((-10000000) ≤ d ∧ d ≤ 10000000) ∧ c ≤ d) ∧ (((-10000000) ≤ e ∧ e ≤ 10000000) ∧ ((-10000000) ≤ f ∧ f ≤ 10000000) ∧ e ≤ f) := by

  unfold smE fe at h

  split at h

  · rename_i h1

    split at h

    · rename_i h2; exact ⟨re_ok h1, re_ok h2, re_ok h⟩

    · rename_i h2; exact absurd h h2

  · rename_i h1; exact absurd h h1

theorem checkSums_p {x0 x1 x2 x3 x4 x5 : Int} (r0 : I64 x0) (r1 : I64 x1) (r2 : I64 x2) (r3 : I64 x3) (r4 : I64 x4) (r5 : I64 x5) : Spec Tryz.prog meter_CheckSums_s ⟨[x0, x1, x2, x3, x4, x5], [], []⟩ [smE x0 x1 x2 x3 x4 x5] [] [] := by

  have hl : I64 (-10000000) := by decide

  have hm : I64 10000000 := by decide

  obtain ⟨v, rfl, hs⟩ : ∃ v : Int, v = smE x0 x1 x2 x3 x4 x5 ∧ Spec Tryz.prog meter_CheckSums_s ⟨[x0, x1, x2, x3, x4, x5], [], []⟩ [v] [] [] := by

    refine kp r0 r1 r2 r3 r4 r5 (R := (· = smE x0 x1 x2 x3 x4 x5)) ⟨_, check_s r0 r1 hl hm, _, check_s r2 r3 hl hm, _, check_s r4 r5 hl hm, ?_⟩

    simp only [beq_iff_eq, beq_eq_false_iff_ne, ne_eq]

    unfold smE fe

    refine ⟨fun h1 => ⟨fun h2 => ⟨fun h3 => ?_, fun h3 => ?_⟩, fun h2 => ?_⟩, fun h1 => ?_⟩

    · simp [h1, h2, h3]

    · simp [h1, h2]

    · simp [h1, h2]

    · simp [h1]

  exact hs

set_option maxHeartbeats 8000000 in

theorem checkSums_r {x0 x1 x2 x3 x4 x5 : Int} (r0 : I64 x0) (r1 : I64 x1) (r2 : I64 x2) (r3 : I64 x3) (r4 : I64 x4) (r5 : I64 x5) : Spec Tryz.prog etalonref06_CheckSums_s ⟨[x0, x1, x2, x3, x4, x5], [], []⟩ [smE x0 x1 x2 x3 x4 x5] [] [] := by

  obtain ⟨v, rfl, hs⟩ : ∃ v : Int, v = smE x0 x1 x2 x3 x4 x5 ∧ Spec Tryz.prog etalonref06_CheckSums_s ⟨[x0, x1, x2, x3, x4, x5], [], []⟩ [v] [] [] := by

    refine kr r0 r1 r2 r3 r4 r5 (R := (· = smE x0 x1 x2 x3 x4 x5)) ?_

    simp only [decide_eq_true_eq, decide_eq_false_iff_not]

    unfold smE fe re

    (repeat' (first | apply And.intro | intro _ | fail)) <;> simp [*] <;> omega

  exact hs

end Go.Proofs.YtpjcjdhidfnbbaaGreat.Ev
