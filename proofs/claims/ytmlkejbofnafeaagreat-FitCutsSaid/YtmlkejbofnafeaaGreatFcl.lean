/- FitCuts. -/
import Derived.Test.YtmlkejbofnafeaaGreatFcw
import Derived.Test.YtmlkejbofnafeaaGreatFaw7
namespace Go.Proofs.YtmlkejbofnafeaaGreat.Ev
set_option linter.unusedSimpArgs false
open Go Go.RowKit
set_option linter.unusedVariables false
set_option maxRecDepth 100000
def etalonlaw07_FitCuts_s : Sig := ⟨3, ⟨2, 0, 5⟩, ⟨0, 1, 0⟩, [(.asl 0 (.var 0)), (.int .i64 (.var 1))], [(some ⟨[], 61, true, false, (some ⟨(.var 0), [(.int .i64), (.int .i64), (.int .i64), (.int .i64), (.int .i64)], [(.avar 0), (.avar 1), (.avar 2), (.avar 3), (.avar 4)]⟩)⟩)], (.bool (.var 0)), []⟩

def fcl_t : Tr :=
  (.call etalonlaw07_awake_s ⟨[], [], []⟩ ⟨[], [(.var 0)], []⟩ ⟨4, [], [], [none], (.bool (.var 0)), []⟩
  (.ite (.var 0)
  (.ite (.icmp .leq (.var 0) (.lit 8))
   (.call fit_CutOf_s ⟨[(.var 0), (.var 1)], [], [(.avar 0), (.avar 1), (.avar 2), (.avar 3), (.avar 4)]⟩ ⟨[(.var 0), (.var 1), (.var 2), (.var 3), (.var 4)], [], [(.avar 0), (.avar 1), (.avar 2), (.avar 3), (.avar 4), (.avar 5), (.avar 6), (.avar 7), (.avar 8), (.avar 9), (.avar 10), (.avar 11), (.avar 12), (.avar 13), (.avar 14)]⟩ ⟨5, [(.asl 2 (.var 0)), (.int .i64 (.var 1))], [2], [none, none, (some ⟨[], 61, false, true, (some ⟨(.var 0), [(.int .i64), (.int .i64), (.int .i64), (.int .i64), (.int .i64)], [(.avar 0), (.avar 1), (.avar 2), (.avar 3), (.avar 4)]⟩)⟩)], (.tuple [(.agg [(.asl 3 (.var 2)), (.asl 4 (.var 3))]), (.int .i64 (.var 4))]), [(some ⟨[], 61, false, true, (some ⟨(.var 2), [(.int .i64), (.int .i64), (.int .i64), (.int .i64), (.int .i64)], [(.avar 5), (.avar 6), (.avar 7), (.avar 8), (.avar 9)]⟩)⟩), (some ⟨[], 61, false, true, (some ⟨(.var 3), [(.int .i64), (.int .i64), (.int .i64), (.int .i64), (.int .i64)], [(.avar 10), (.avar 11), (.avar 12), (.avar 13), (.avar 14)]⟩)⟩)]⟩
    (.rng 2 0 140737488355328 (.rng 3 0 140737488355328 (.call fit_Widest_s ⟨[(.var 0)], [], [(.avar 0), (.avar 1), (.avar 2), (.avar 3), (.avar 4)]⟩ ⟨[(.var 0), (.var 5), (.var 6)], [], [(.avar 0), (.avar 1), (.avar 2), (.avar 3), (.avar 4)]⟩ ⟨7, [(.asl 7 (.var 0))], [7], [none, none, none, none, none, none, none, (some ⟨[], 61, false, true, (some ⟨(.var 0), [(.int .i64), (.int .i64), (.int .i64), (.int .i64), (.int .i64)], [(.avar 0), (.avar 1), (.avar 2), (.avar 3), (.avar 4)]⟩)⟩)], (.tuple [(.int .i64 (.var 5)), (.int .i64 (.var 6))]), []⟩
    (.call etalonref07_BoxesErr_s ⟨[(.var 0)], [], [(.avar 0), (.avar 1), (.avar 2), (.avar 3), (.avar 4)]⟩ ⟨[(.var 0), (.var 7)], [], [(.avar 0), (.avar 1), (.avar 2), (.avar 3), (.avar 4)]⟩ ⟨8, [(.asl 0 (.var 0))], [0], [(some ⟨[], 61, true, false, (some ⟨(.var 0), [(.int .i64), (.int .i64), (.int .i64), (.int .i64), (.int .i64)], [(.avar 0), (.avar 1), (.avar 2), (.avar 3), (.avar 4)]⟩)⟩), none, none, none, none, none, none, none], (.int .i64 (.var 7)), []⟩
    (.ite (.icmp .eql (.var 7) (.lit 0))
    (.call etalonref07_Widest_s ⟨[(.var 0)], [], [(.avar 0), (.avar 1), (.avar 2), (.avar 3), (.avar 4)]⟩ ⟨[(.var 0), (.var 8), (.var 9)], [], [(.avar 0), (.avar 1), (.avar 2), (.avar 3), (.avar 4)]⟩ ⟨9, [(.asl 0 (.var 0))], [0], [(some ⟨[], 61, true, false, (some ⟨(.var 0), [(.int .i64), (.int .i64), (.int .i64), (.int .i64), (.int .i64)], [(.avar 0), (.avar 1), (.avar 2), (.avar 3), (.avar 4)]⟩)⟩), none, none, none, none, none, none, none], (.tuple [(.int .i64 (.var 8)), (.int .i64 (.var 9))]), []⟩
     (.call etalonref07_CutOf_s ⟨[(.var 0), (.var 1)], [], [(.avar 0), (.avar 1), (.avar 2), (.avar 3), (.avar 4)]⟩ ⟨[(.var 0), (.var 1), (.var 10), (.var 11), (.var 12)], [], [(.avar 0), (.avar 1), (.avar 2), (.avar 3), (.avar 4), (.avar 15), (.avar 16), (.avar 17), (.avar 18), (.avar 19), (.avar 20), (.avar 21), (.avar 22), (.avar 23), (.avar 24)]⟩ ⟨10, [(.asl 0 (.var 0)), (.int .i64 (.var 1))], [0], [(some ⟨[], 61, true, false, (some ⟨(.var 0), [(.int .i64), (.int .i64), (.int .i64), (.int .i64), (.int .i64)], [(.avar 0), (.avar 1), (.avar 2), (.avar 3), (.avar 4)]⟩)⟩), none, none, none, none, none, none, none], (.tuple [(.agg [(.asl 8 (.var 10)), (.asl 9 (.var 11))]), (.int .i64 (.var 12))]), [(some ⟨[], 61, false, true, (some ⟨(.var 10), [(.int .i64), (.int .i64), (.int .i64), (.int .i64), (.int .i64)], [(.avar 15), (.avar 16), (.avar 17), (.avar 18), (.avar 19)]⟩)⟩), (some ⟨[], 61, false, true, (some ⟨(.var 11), [(.int .i64), (.int .i64), (.int .i64), (.int .i64), (.int .i64)], [(.avar 20), (.avar 21), (.avar 22), (.avar 23), (.avar 24)]⟩)⟩)]⟩
     (.rng 10 0 140737488355328 (.rng 11 0 140737488355328 (.ite (.icmp .eql (.var 6) (.var 9))
     (.ite (.icmp .eql (.var 5) (.var 8))
      (.ite (.icmp .eql (.var 4) (.var 12))
       (.call etalonbase_Boxes_s ⟨[(.var 2), (.var 10)], [], [(.avar 5), (.avar 6), (.avar 7), (.avar 8), (.avar 9), (.avar 15), (.avar 16), (.avar 17), (.avar 18), (.avar 19)]⟩ ⟨[(.var 2), (.var 10)], [(.var 1)], [(.avar 5), (.avar 6), (.avar 7), (.avar 8), (.avar 9), (.avar 15), (.avar 16), (.avar 17), (.avar 18), (.avar 19)]⟩ ⟨11, [(.asl 3 (.var 2)), (.asl 8 (.var 10))], [3, 8], [none, none, none, (some ⟨[], 61, false, true, (some ⟨(.var 2), [(.int .i64), (.int .i64), (.int .i64), (.int .i64), (.int .i64)], [(.avar 5), (.avar 6), (.avar 7), (.avar 8), (.avar 9)]⟩)⟩), none, none, none, none, (some ⟨[], 61, false, true, (some ⟨(.var 10), [(.int .i64), (.int .i64), (.int .i64), (.int .i64), (.int .i64)], [(.avar 15), (.avar 16), (.avar 17), (.avar 18), (.avar 19)]⟩)⟩), none, none], (.bool (.var 1)), []⟩
        (.ite (.var 1)
        (.call etalonbase_Boxes_s ⟨[(.var 3), (.var 11)], [], [(.avar 10), (.avar 11), (.avar 12), (.avar 13), (.avar 14), (.avar 20), (.avar 21), (.avar 22), (.avar 23), (.avar 24)]⟩ ⟨[(.var 3), (.var 11)], [(.var 2)], [(.avar 10), (.avar 11), (.avar 12), (.avar 13), (.avar 14), (.avar 20), (.avar 21), (.avar 22), (.avar 23), (.avar 24)]⟩ ⟨11, [(.asl 4 (.var 3)), (.asl 9 (.var 11))], [4, 9], [none, none, none, none, (some ⟨[], 61, false, true, (some ⟨(.var 3), [(.int .i64), (.int .i64), (.int .i64), (.int .i64), (.int .i64)], [(.avar 10), (.avar 11), (.avar 12), (.avar 13), (.avar 14)]⟩)⟩), none, none, none, none, (some ⟨[], 61, false, true, (some ⟨(.var 11), [(.int .i64), (.int .i64), (.int .i64), (.int .i64), (.int .i64)], [(.avar 20), (.avar 21), (.avar 22), (.avar 23), (.avar 24)]⟩)⟩), none], (.bool (.var 2)), []⟩
         (.ret ⟨[], [(.var 2)], []⟩ []))
        (.ret ⟨[], [(.lit false)], []⟩ [])))
       (.ret ⟨[], [(.lit false)], []⟩ []))
      (.ret ⟨[], [(.lit false)], []⟩ []))
     (.ret ⟨[], [(.lit false)], []⟩ []))))))
    (.ite (.icmp .eql (.var 4) (.var 7))
     (.ite (.icmp .eql (.var 6) (.var 7))
      (.ite (.icmp .eql (.bin .addI (.var 2) (.var 3)) (.lit 0))
       (.ret ⟨[], [(.icmp .eql (.var 5) (.lit 0))], []⟩ [])
       (.ret ⟨[], [(.lit false)], []⟩ []))
      (.ret ⟨[], [(.lit false)], []⟩ []))
     (.ret ⟨[], [(.lit false)], []⟩ []))))))))
   (.ret ⟨[], [(.lit true)], []⟩ []))
  (.ret ⟨[], [(.lit false)], []⟩ [])))
theorem fcl {x0 x1 : Int} {f0 f1 f2 f3 f4 : Int → Int} (r0 : 0 ≤ x0 ∧ x0 ≤ 9223372036854775807) (r1 : (-9223372036854775808) ≤ x1 ∧ x1 ≤ 9223372036854775807) (s0 : ∀ q, (-9223372036854775808) ≤ f0 q ∧ f0 q ≤ 9223372036854775807) (s1 : ∀ q, (-9223372036854775808) ≤ f1 q ∧ f1 q ≤ 9223372036854775807) (s2 : ∀ q, (-9223372036854775808) ≤ f2 q ∧ f2 q ≤ 9223372036854775807) (s3 : ∀ q, (-9223372036854775808) ≤ f3 q ∧ f3 q ≤ 9223372036854775807) (s4 : ∀ q, (-9223372036854775808) ≤ f4 q ∧ f4 q ≤ 9223372036854775807) {R : Bool → Prop}
  (H : (∃ u0 : Bool, Spec Tryz.prog etalonlaw07_awake_s ⟨[], [], []⟩ [] [u0] [] ∧
   ((u0 = true → ((decide ((x0 : Int) ≤ 8) = true → (∃ v2 : Int, ∃ v3 : Int, ∃ v4 : Int, ∃ g5 : Int → Int, ∃ g6 : Int → Int, ∃ g7 : Int → Int, ∃ g8 : Int → Int, ∃ g9 : Int → Int, ∃ g10 : Int → Int, ∃ g11 : Int → Int, ∃ g12 : Int → Int, ∃ g13 : Int → Int, ∃ g14 : Int → Int, Spec Tryz.prog fit_CutOf_s ⟨[x0, x1], [], [f0, f1, f2, f3, f4]⟩ [v2, v3, v4] [] [g5, g6, g7, g8, g9, g10, g11, g12, g13, g14] ∧
     ((0 ≤ (v2 : Int) ∧ (v2 : Int) ≤ 140737488355328) ∧ ((0 ≤ (v3 : Int) ∧ (v3 : Int) ≤ 140737488355328) ∧ (∃ v5 : Int, ∃ v6 : Int, Spec Tryz.prog fit_Widest_s ⟨[x0], [], [f0, f1, f2, f3, f4]⟩ [v5, v6] [] [] ∧
     (∃ v7 : Int, Spec Tryz.prog etalonref07_BoxesErr_s ⟨[x0], [], [f0, f1, f2, f3, f4]⟩ [v7] [] [] ∧
     ((((v7 : Int) == 0) = true → (∃ v8 : Int, ∃ v9 : Int, Spec Tryz.prog etalonref07_Widest_s ⟨[x0], [], [f0, f1, f2, f3, f4]⟩ [v8, v9] [] [] ∧
      (∃ v10 : Int, ∃ v11 : Int, ∃ v12 : Int, ∃ g15 : Int → Int, ∃ g16 : Int → Int, ∃ g17 : Int → Int, ∃ g18 : Int → Int, ∃ g19 : Int → Int, ∃ g20 : Int → Int, ∃ g21 : Int → Int, ∃ g22 : Int → Int, ∃ g23 : Int → Int, ∃ g24 : Int → Int, Spec Tryz.prog etalonref07_CutOf_s ⟨[x0, x1], [], [f0, f1, f2, f3, f4]⟩ [v10, v11, v12] [] [g15, g16, g17, g18, g19, g20, g21, g22, g23, g24] ∧
      ((0 ≤ (v10 : Int) ∧ (v10 : Int) ≤ 140737488355328) ∧ ((0 ≤ (v11 : Int) ∧ (v11 : Int) ≤ 140737488355328) ∧ ((((v6 : Int) == v9) = true → ((((v5 : Int) == v8) = true → ((((v4 : Int) == v12) = true → (∃ u1 : Bool, Spec Tryz.prog etalonbase_Boxes_s ⟨[v2, v10], [], [g5, g6, g7, g8, g9, g15, g16, g17, g18, g19]⟩ [] [u1] [] ∧
         ((u1 = true → (∃ u2 : Bool, Spec Tryz.prog etalonbase_Boxes_s ⟨[v3, v11], [], [g10, g11, g12, g13, g14, g20, g21, g22, g23, g24]⟩ [] [u2] [] ∧
          R (u2))) ∧
         (u1 = false → R (false))))) ∧
        (((v4 : Int) == v12) = false → R (false)))) ∧
       (((v5 : Int) == v8) = false → R (false)))) ∧
      (((v6 : Int) == v9) = false → R (false)))))))) ∧
     (((v7 : Int) == 0) = false → ((((v4 : Int) == v7) = true → ((((v6 : Int) == v7) = true → (((((v2 + v3) : Int) == 0) = true → R (((v5 : Int) == 0))) ∧
        ((((v2 + v3) : Int) == 0) = false → R (false)))) ∧
       (((v6 : Int) == v7) = false → R (false)))) ∧
      (((v4 : Int) == v7) = false → R (false))))))))))) ∧
    (decide ((x0 : Int) ≤ 8) = false → R (true)))) ∧
   (u0 = false → R (false))))) :
    ∃ u0 : Bool, R u0 ∧ Spec Tryz.prog etalonlaw07_FitCuts_s ⟨[x0, x1], [], [f0, f1, f2, f3, f4]⟩ [] [u0] [] :=
  Eq.mp (by kernel_rfl) (exV_of (K := fun d => app3 etalonlaw07_FitCuts_s.out R d ∧ Spec Tryz.prog etalonlaw07_FitCuts_s ⟨[x0, x1], [], [f0, f1, f2, f3, f4]⟩ d.1 d.2.1 d.2.2) (tree_at mixed names S1_ok (S := S1 Tryz.prog) (lf := 100000) (d := 60) etalonlaw07_FitCuts_s fcl_t { ivs := [(0, 0, 9223372036854775807), (1, (-9223372036854775808), 9223372036854775807)], aivs := [(0, (-9223372036854775808), 9223372036854775807), (1, (-9223372036854775808), 9223372036854775807), (2, (-9223372036854775808), 9223372036854775807), (3, (-9223372036854775808), 9223372036854775807), (4, (-9223372036854775808), 9223372036854775807)] } ⟨[x0, x1], [], [f0, f1, f2, f3, f4]⟩ rfl (by kernel_rfl) (by kernel_rfl) (by kernel_rfl) ⟨(fc r0 (fc r1 fz)), fz, (fc s0 (fc s1 (fc s2 (fc s3 (fc s4 fz))))), fz⟩ (R := fun d => app3 etalonlaw07_FitCuts_s.out R d) (Eq.mp (by kernel_rfl) H)))

theorem CutR.uniq {n d : Int} {f0 f1 f2 f3 f4 : Int → Int} {a b c a' b' c' : Int} {g0 g1 g2 g3 g4 g5 g6 g7 g8 g9 h0 h1 h2 h3 h4 h5 h6 h7 h8 h9 : Int → Int} (h : CutR n d f0 f1 f2 f3 f4 a b c g0 g1 g2 g3 g4 g5 g6 g7 g8 g9) (k : CutR n d f0 f1 f2 f3 f4 a' b' c' h0 h1 h2 h3 h4 h5 h6 h7 h8 h9) :

    a = a' ∧ b = b' ∧ c = c' ∧ g0 = h0 ∧ g1 = h1 ∧ g2 = h2 ∧ g3 = h3 ∧ g4 = h4 ∧ g5 = h5 ∧ g6 = h6 ∧ g7 = h7 ∧ g8 = h8 ∧ g9 = h9 := by

  have hc := h.c

  have kc := k.c

  by_cases e : cutC n d f0 f1 f2 f3 = 0

  · by_cases ev : d % 2 = 0

    · obtain ⟨p0, p1, p2, p3, p4, p5, p6, p7, p8, p9, p10, p11⟩ := h.ev e ev

      obtain ⟨q0, q1, q2, q3, q4, q5, q6, q7, q8, q9, q10, q11⟩ := k.ev e ev

      exact ⟨by rw [p0, q0], by rw [p1, q1], by rw [hc, kc], by rw [p2, q2], by rw [p3, q3], by rw [p4, q4], by rw [p5, q5], by rw [p6, q6], by rw [p7, q7], by rw [p8, q8], by rw [p9, q9], by rw [p10, q10], by rw [p11, q11]⟩

    · obtain ⟨p0, p1, p2, p3, p4, p5, p6, p7, p8, p9, p10, p11⟩ := h.od e ev

      obtain ⟨q0, q1, q2, q3, q4, q5, q6, q7, q8, q9, q10, q11⟩ := k.od e ev

      exact ⟨by rw [p0, q0], by rw [p1, q1], by rw [hc, kc], by rw [p2, q2], by rw [p3, q3], by rw [p4, q4], by rw [p5, q5], by rw [p6, q6], by rw [p7, q7], by rw [p8, q8], by rw [p9, q9], by rw [p10, q10], by rw [p11, q11]⟩

  · obtain ⟨p0, p1, p2, p3, p4, p5, p6, p7, p8, p9, p10, p11⟩ := h.no e

    obtain ⟨q0, q1, q2, q3, q4, q5, q6, q7, q8, q9, q10, q11⟩ := k.no e

    exact ⟨by rw [p0, q0], by rw [p1, q1], by rw [hc, kc], by rw [p2, q2], by rw [p3, q3], by rw [p4, q4], by rw [p5, q5], by rw [p6, q6], by rw [p7, q7], by rw [p8, q8], by rw [p9, q9], by rw [p10, q10], by rw [p11, q11]⟩

theorem CutR.rng {n d : Int} {f0 f1 f2 f3 f4 : Int → Int} {a b c : Int} {g0 g1 g2 g3 g4 g5 g6 g7 g8 g9 : Int → Int} (h : CutR n d f0 f1 f2 f3 f4 a b c g0 g1 g2 g3 g4 g5 g6 g7 g8 g9) (hn : 0 ≤ n ∧ n ≤ 8) (s0 : I64r f0) (s1 : I64r f1) (s2 : I64r f2) (s3 : I64r f3) (s4 : I64r f4) (hb : bxsE n f0 f1 f2 f3 f4 = 0) :

    (0 ≤ a ∧ a ≤ 140737488355328) ∧ (0 ≤ b ∧ b ≤ 140737488355328) ∧ I64r g0 ∧ I64r g1 ∧ I64r g2 ∧ I64r g3 ∧ I64r g4 ∧ I64r g5 ∧ I64r g6 ∧ I64r g7 ∧ I64r g8 ∧ I64r g9 := by

  by_cases e : cutC n d f0 f1 f2 f3 = 0

  · have hd : 0 ≤ d ∧ d ≤ 2 * n - 1 := by

      unfold cutC at e

      split at e

      · omega

      · rename_i g; simp only [Decidable.not_not] at g; exact g

    obtain ⟨_, rg⟩ := bx_rng hn.1 hb

    obtain ⟨q0, q1, q2, q3⟩ := rg (d / 2) (by omega) (by omega)

    by_cases ev : d % 2 = 0

    · obtain ⟨p0, p1, rfl, rfl, rfl, rfl, rfl, rfl, rfl, rfl, rfl, rfl⟩ := h.ev e ev

      exact ⟨by omega, by omega, s0, upd_rng s1 (by omega), s2, s3, s4, upd_rng s0 (by omega), s1, s2, s3, s4⟩

    · obtain ⟨p0, p1, rfl, rfl, rfl, rfl, rfl, rfl, rfl, rfl, rfl, rfl⟩ := h.od e ev

      exact ⟨by omega, by omega, s0, s1, s2, upd_rng s3 (by omega), s4, s0, s1, upd_rng s2 (by omega), s3, s4⟩

  · obtain ⟨p0, p1, rfl, rfl, rfl, rfl, rfl, rfl, rfl, rfl, rfl, rfl⟩ := h.no e

    exact ⟨by omega, by omega, zero_rng, zero_rng, zero_rng, zero_rng, zero_rng, zero_rng, zero_rng, zero_rng, zero_rng, zero_rng⟩

theorem cuts {x0 x1 : Int} {f0 f1 f2 f3 f4 : Int → Int} (r0 : 0 ≤ x0 ∧ x0 ≤ 9223372036854775807) (r1 : (-9223372036854775808) ≤ x1 ∧ x1 ≤ 9223372036854775807) (s0 : ∀ q, (-9223372036854775808) ≤ f0 q ∧ f0 q ≤ 9223372036854775807) (s1 : ∀ q, (-9223372036854775808) ≤ f1 q ∧ f1 q ≤ 9223372036854775807) (s2 : ∀ q, (-9223372036854775808) ≤ f2 q ∧ f2 q ≤ 9223372036854775807) (s3 : ∀ q, (-9223372036854775808) ≤ f3 q ∧ f3 q ≤ 9223372036854775807) (s4 : ∀ q, (-9223372036854775808) ≤ f4 q ∧ f4 q ≤ 9223372036854775807) :

    Spec Tryz.prog etalonlaw07_FitCuts_s ⟨[x0, x1], [], [f0, f1, f2, f3, f4]⟩ [] [true] [] := by

  obtain ⟨a0, rfl, ha⟩ := awake

  obtain ⟨w, rfl, hs⟩ : ∃ u0 : Bool, u0 = true ∧ Spec Tryz.prog etalonlaw07_FitCuts_s ⟨[x0, x1], [], [f0, f1, f2, f3, f4]⟩ [] [u0] [] := by

    refine fcl r0 r1 s0 s1 s2 s3 s4 (R := (· = true)) ⟨true, ha, fun _ => ⟨fun h8 => ?_, fun _ => rfl⟩, fun h => by cases h⟩

    have h8 : x0 ≤ 8 := of_decide_eq_true h8

    have hw := widest_p (x0 := x0) (f4 := f4) ⟨r0.1, h8⟩ s0 s1 s2 s3 s4

    have hr := boxes_r (x0 := x0) (by omega) s0 s1 s2 s3 s4

    by_cases e : bxsE x0 f0 f1 f2 f3 f4 = 0

    · obtain ⟨a, b, c, g0, g1, g2, g3, g4, g5, g6, g7, g8, g9, hR, hp⟩ := cut_p ⟨r0.1, h8⟩ r1 s0 s1 s2 s3 s4 e

      obtain ⟨a', b', c', k0, k1, k2, k3, k4, k5, k6, k7, k8, k9, hR', hp'⟩ := cut_r ⟨r0.1, h8⟩ r1 s0 s1 s2 s3 s4 e

      obtain ⟨rfl, rfl, rfl, rfl, rfl, rfl, rfl, rfl, rfl, rfl, rfl, rfl, rfl⟩ := hR.uniq hR'

      obtain ⟨m0, m1, t0, t1, t2, t3, t4, t5, t6, t7, t8, t9⟩ := hR.rng ⟨r0.1, h8⟩ s0 s1 s2 s3 s4 e

      have hv := widest_r (x0 := x0) (f4 := f4) ⟨r0.1, h8⟩ s0 s1 s2 s3 s4

      have b1 := same_s m0 t0 t1 t2 t3 t4 t0 t1 t2 t3 t4 (fun _ _ _ => ⟨rfl, rfl, rfl, rfl, rfl⟩)

      have b2 := same_s m1 t5 t6 t7 t8 t9 t5 t6 t7 t8 t9 (fun _ _ _ => ⟨rfl, rfl, rfl, rfl, rfl⟩)

      rw [e, if_pos rfl, if_pos rfl] at hw

      rw [e] at hr

      refine ⟨_, _, _, _, _, _, _, _, _, _, _, _, _, hp, m0, m1, _, _, hw, _, hr, fun _ => ⟨_, _, hv, _, _, _, _, _, _, _, _, _, _, _, _, _, hp', m0, m1, ?_⟩, fun h => by simp at h⟩

      simp only [beq_self_eq_true, true_implies, Bool.true_eq_false, false_implies, and_true]

      exact ⟨_, b1, fun _ => ⟨_, b2, rfl⟩, fun h => by cases h⟩

    · have hp := cut_no (x1 := x1) ⟨r0.1, h8⟩ r1 s0 s1 s2 s3 s4 e

      rw [if_neg e, if_neg e] at hw

      refine ⟨_, _, _, _, _, _, _, _, _, _, _, _, _, hp, by decide, by decide, _, _, hw, _, hr, fun h => absurd (by simpa using h) e, fun _ => ?_⟩

      simp

  exact hs

end Go.Proofs.YtmlkejbofnafeaaGreat.Ev
