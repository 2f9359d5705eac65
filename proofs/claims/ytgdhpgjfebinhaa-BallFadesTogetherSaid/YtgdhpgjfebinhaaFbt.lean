/- BallFadesTogether. -/
import Derived.Test.YtgdhpgjfebinhaaFbf
import Derived.Test.YtgdhpgjfebinhaaFtp
namespace Go.Proofs.Ytgdhpgjfebinhaa.Ev
set_option linter.unusedSimpArgs false
open Go Go.RowKit
set_option linter.unusedVariables false
set_option maxRecDepth 100000
def etalonlaw01_BallFadesTogether_s : Sig := ⟨12, ⟨2, 0, 0⟩, ⟨0, 1, 0⟩, [(.int .i64 (.var 0)), (.int .i64 (.var 1))], [], (.bool (.var 0)), []⟩

def bft_t : Tr :=
  (.call etalonlaw01_awake_s ⟨[], [], []⟩ ⟨[], [(.var 0)], []⟩ ⟨16, [], [], [], (.bool (.var 0)), []⟩
  (.ite (.var 0)
  (.ite (.icmp .leq (.lit 0) (.var 0))
   (.ite (.icmp .leq (.var 0) (.lit 10000000))
    (.ite (.icmp .leq (.lit 0) (.var 1))
     (.ite (.icmp .leq (.var 1) (.lit 10000000))
      (.call ball_Fading_s ⟨[(.var 0), (.var 0)], [], []⟩ ⟨[(.var 0), (.var 0), (.var 2), (.var 3), (.var 4)], [], []⟩ ⟨56, [(.agg [(.int .i64 (.var 0)), (.int .i64 (.var 0))])], [], [], (.tuple [(.agg [(.int .i64 (.var 2)), (.int .i64 (.var 3))]), (.int .i64 (.var 4))]), []⟩
       (.call ball_Fading_s ⟨[(.var 1), (.var 1)], [], []⟩ ⟨[(.var 1), (.var 1), (.var 5), (.var 6), (.var 7)], [], []⟩ ⟨56, [(.agg [(.int .i64 (.var 1)), (.int .i64 (.var 1))])], [], [none], (.tuple [(.agg [(.int .i64 (.var 5)), (.int .i64 (.var 6))]), (.int .i64 (.var 7))]), []⟩
       (.call ball_Fading_s ⟨[(.bin .addI (.var 0) (.var 1)), (.bin .addI (.var 0) (.var 1))], [], []⟩ ⟨[(.bin .addI (.var 0) (.var 1)), (.bin .addI (.var 0) (.var 1)), (.var 8), (.var 9), (.var 10)], [], []⟩ ⟨56, [(.agg [(.int .i64 (.bin .addI (.var 0) (.var 1))), (.int .i64 (.bin .addI (.var 0) (.var 1)))])], [], [none, none], (.tuple [(.agg [(.int .i64 (.var 8)), (.int .i64 (.var 9))]), (.int .i64 (.var 10))]), []⟩
       (.call ball_Fading_s ⟨[(.bin .minI (.var 0) (.var 1)), (.bin .maxI (.var 0) (.var 1))], [], []⟩ ⟨[(.bin .minI (.var 0) (.var 1)), (.bin .maxI (.var 0) (.var 1)), (.var 11), (.var 12), (.var 13)], [], []⟩ ⟨56, [(.agg [(.int .i64 (.bin .minI (.var 0) (.var 1))), (.int .i64 (.bin .maxI (.var 0) (.var 1)))])], [], [none, none, none], (.tuple [(.agg [(.int .i64 (.var 11)), (.int .i64 (.var 12))]), (.int .i64 (.var 13))]), []⟩
       (.ite (.icmp .eql (.var 4) (.lit 0))
       (.ite (.icmp .eql (.var 7) (.lit 0))
        (.ite (.icmp .eql (.var 10) (.lit 0))
         (.ite (.icmp .eql (.var 13) (.lit 0))
          (.ite (.icmp .leq (.lit 0) (.var 2))
           (.ite (.icmp .leq (.var 2) (.var 3))
            (.ite (.icmp .leq (.lit 0) (.var 5))
             (.ite (.icmp .leq (.var 5) (.var 6))
              (.ite (.icmp .leq (.var 3) (.lit 1048576))
               (.ite (.icmp .leq (.var 6) (.lit 1048576))
                (.ite (.icmp .leq (.bin (.mulW .i64) (.var 8) (.lit 1048576)) (.bin (.mulW .i64) (.var 3) (.var 6)))
                 (.ite (.icmp .leq (.bin (.mulW .i64) (.var 2) (.var 5)) (.bin (.mulW .i64) (.var 9) (.lit 1048576)))
                  (.ite (.icmp .leq (.var 0) (.var 1))
                   (.ite (.icmp .eql (.var 11) (.var 5))
                    (.ite (.icmp .eql (.var 12) (.var 3))
                     (.ret ⟨[], [(.icmp .leq (.var 8) (.bin .minI (.var 3) (.var 6)))], []⟩ [])
                     (.ret ⟨[], [(.lit false)], []⟩ []))
                    (.ret ⟨[], [(.lit false)], []⟩ []))
                   (.ite (.icmp .eql (.var 11) (.var 2))
                    (.ite (.icmp .eql (.var 12) (.var 6))
                     (.ret ⟨[], [(.icmp .leq (.var 8) (.bin .minI (.var 6) (.var 3)))], []⟩ [])
                     (.ret ⟨[], [(.lit false)], []⟩ []))
                    (.ret ⟨[], [(.lit false)], []⟩ [])))
                  (.ret ⟨[], [(.lit false)], []⟩ []))
                 (.ret ⟨[], [(.lit false)], []⟩ []))
                (.ret ⟨[], [(.lit false)], []⟩ []))
               (.ret ⟨[], [(.lit false)], []⟩ []))
              (.ret ⟨[], [(.lit false)], []⟩ []))
             (.ret ⟨[], [(.lit false)], []⟩ []))
            (.ret ⟨[], [(.lit false)], []⟩ []))
           (.ret ⟨[], [(.lit false)], []⟩ []))
          (.ret ⟨[], [(.lit false)], []⟩ []))
         (.ret ⟨[], [(.lit false)], []⟩ []))
        (.ret ⟨[], [(.lit false)], []⟩ []))
       (.ret ⟨[], [(.lit false)], []⟩ []))))))
      (.ret ⟨[], [(.lit true)], []⟩ []))
     (.ret ⟨[], [(.lit true)], []⟩ []))
    (.ret ⟨[], [(.lit true)], []⟩ []))
   (.ret ⟨[], [(.lit true)], []⟩ []))
  (.ret ⟨[], [(.lit false)], []⟩ [])))
theorem bft {x0 x1 : Int} (r0 : (-9223372036854775808) ≤ x0 ∧ x0 ≤ 9223372036854775807) (r1 : (-9223372036854775808) ≤ x1 ∧ x1 ≤ 9223372036854775807) {R : Bool → Prop}
  (H : (∃ u0 : Bool, Spec Try.prog etalonlaw01_awake_s ⟨[], [], []⟩ [] [u0] [] ∧
   ((u0 = true → ((decide ((0 : Int) ≤ x0) = true → ((decide ((x0 : Int) ≤ 10000000) = true → ((decide ((0 : Int) ≤ x1) = true → ((decide ((x1 : Int) ≤ 10000000) = true → (∃ v2 : Int, ∃ v3 : Int, ∃ v4 : Int, Spec Try.prog ball_Fading_s ⟨[x0, x0], [], []⟩ [v2, v3, v4] [] [] ∧
        (∃ v5 : Int, ∃ v6 : Int, ∃ v7 : Int, Spec Try.prog ball_Fading_s ⟨[x1, x1], [], []⟩ [v5, v6, v7] [] [] ∧
        (∃ v8 : Int, ∃ v9 : Int, ∃ v10 : Int, Spec Try.prog ball_Fading_s ⟨[(x0 + x1), (x0 + x1)], [], []⟩ [v8, v9, v10] [] [] ∧
        (∃ v11 : Int, ∃ v12 : Int, ∃ v13 : Int, Spec Try.prog ball_Fading_s ⟨[(if (x1 : Int) < x0 then x1 else x0), (if (x1 : Int) > x0 then x1 else x0)], [], []⟩ [v11, v12, v13] [] [] ∧
        ((((v4 : Int) == 0) = true → ((((v7 : Int) == 0) = true → ((((v10 : Int) == 0) = true → ((((v13 : Int) == 0) = true → ((decide ((0 : Int) ≤ v2) = true → ((decide ((v2 : Int) ≤ v3) = true → ((decide ((0 : Int) ≤ v5) = true → ((decide ((v5 : Int) ≤ v6) = true → ((decide ((v3 : Int) ≤ 1048576) = true → ((decide ((v6 : Int) ≤ 1048576) = true → ((decide ((IntKind.i64.wrap (v8 * 1048576) : Int) ≤ IntKind.i64.wrap (v3 * v6)) = true → ((decide ((IntKind.i64.wrap (v2 * v5) : Int) ≤ IntKind.i64.wrap (v9 * 1048576)) = true → ((decide ((x0 : Int) ≤ x1) = true → ((((v11 : Int) == v5) = true → ((((v12 : Int) == v3) = true → R (decide ((v8 : Int) ≤ (if (v6 : Int) < v3 then v6 else v3)))) ∧
                      (((v12 : Int) == v3) = false → R (false)))) ∧
                     (((v11 : Int) == v5) = false → R (false)))) ∧
                    (decide ((x0 : Int) ≤ x1) = false → ((((v11 : Int) == v2) = true → ((((v12 : Int) == v6) = true → R (decide ((v8 : Int) ≤ (if (v3 : Int) < v6 then v3 else v6)))) ∧
                      (((v12 : Int) == v6) = false → R (false)))) ∧
                     (((v11 : Int) == v2) = false → R (false)))))) ∧
                   (decide ((IntKind.i64.wrap (v2 * v5) : Int) ≤ IntKind.i64.wrap (v9 * 1048576)) = false → R (false)))) ∧
                  (decide ((IntKind.i64.wrap (v8 * 1048576) : Int) ≤ IntKind.i64.wrap (v3 * v6)) = false → R (false)))) ∧
                 (decide ((v6 : Int) ≤ 1048576) = false → R (false)))) ∧
                (decide ((v3 : Int) ≤ 1048576) = false → R (false)))) ∧
               (decide ((v5 : Int) ≤ v6) = false → R (false)))) ∧
              (decide ((0 : Int) ≤ v5) = false → R (false)))) ∧
             (decide ((v2 : Int) ≤ v3) = false → R (false)))) ∧
            (decide ((0 : Int) ≤ v2) = false → R (false)))) ∧
           (((v13 : Int) == 0) = false → R (false)))) ∧
          (((v10 : Int) == 0) = false → R (false)))) ∧
         (((v7 : Int) == 0) = false → R (false)))) ∧
        (((v4 : Int) == 0) = false → R (false)))))))) ∧
       (decide ((x1 : Int) ≤ 10000000) = false → R (true)))) ∧
      (decide ((0 : Int) ≤ x1) = false → R (true)))) ∧
     (decide ((x0 : Int) ≤ 10000000) = false → R (true)))) ∧
    (decide ((0 : Int) ≤ x0) = false → R (true)))) ∧
   (u0 = false → R (false))))) :
    ∃ u0 : Bool, R u0 ∧ Spec Try.prog etalonlaw01_BallFadesTogether_s ⟨[x0, x1], [], []⟩ [] [u0] [] :=
  Eq.mp (by kernel_rfl) (exV_of (K := fun d => app3 etalonlaw01_BallFadesTogether_s.out R d ∧ Spec Try.prog etalonlaw01_BallFadesTogether_s ⟨[x0, x1], [], []⟩ d.1 d.2.1 d.2.2) (tree_at mixed names S1_ok (S := S1 Try.prog) (lf := 100000) (d := 60) etalonlaw01_BallFadesTogether_s bft_t { ivs := [(0, (-9223372036854775808), 9223372036854775807), (1, (-9223372036854775808), 9223372036854775807)], aivs := [] } ⟨[x0, x1], [], []⟩ rfl (by kernel_rfl) (by kernel_rfl) (by kernel_rfl) ⟨(fc r0 (fc r1 fz)), fz, fz, fz⟩ (R := fun d => app3 etalonlaw01_BallFadesTogether_s.out R d) (Eq.mp (by kernel_rfl) H)))

/-- What fades by so many parts lies around a power. -/

theorem fade_pow2 (M : Int) (m : Nat) (hM : M = 20000000 * 1073741824) (hm : (m : Int) = 32169908992) {P : Nat} (h1 : (P : Int) ≤ 16777216) :

    1073741824 * (M - 1) ^ (m * P) ≤ fU P * M ^ (m * P) ∧ fD P * M ^ (m * P) ≤ 1073741824 * (M - 1) ^ (m * P) := by

  have h0 : (0 : Int) ≤ (P : Int) := by omega

  obtain ⟨hk, h⟩ := hkv_is (upX_bd h0 h1).2

  obtain ⟨hk', h'⟩ := hkv_is (dnX_bd h0 h1).2

  refine ⟨fadU_pow M m hM hm h1 h, ?_⟩

  cases P with

  | zero =>

    rw [Nat.mul_zero, Int.pow_zero, Int.pow_zero, Int.mul_one, Int.mul_one]

    exact (fD_bd (by omega) (by omega)).2

  | succ P => exact fadD_pow M m hM hm (by omega) h1 h' hk'

theorem fadE_ok {lo hi : Int} (h0 : 0 ≤ lo) (h1 : lo ≤ hi) (h2 : hi ≤ 1099511627776) : fadE lo hi = 0 := by unfold fadE; rw [if_pos h0, if_pos ⟨by omega, h2⟩, if_pos h1]

theorem fading_ok {lo hi : Int} (h0 : 0 ≤ lo) (h1 : lo ≤ hi) (h2 : hi ≤ 1099511627776) : Spec Try.prog ball_Fading_s ⟨[lo, hi], [], []⟩ [fadL hi, fadH lo, 0] [] [] := by

  obtain ⟨a, b, c, h, hs⟩ := fading_p (lo := lo) (hi := hi) (by omega) (by omega)

  have e := h.hc

  rw [fadE_ok h0 h1 h2] at e

  subst e

  obtain ⟨rfl, rfl⟩ := h.h0 rfl

  exact hs

theorem cst (P : Nat) (h : (P : Int) ≤ 10000000) : (P : Int) ≤ 16777216 ∧ (0 : Int) ≤ P := by omega

theorem key_num {P Q : Nat} (hp : (P : Int) ≤ 10000000) (hq : (Q : Int) ≤ 10000000) : (0 ≤ fadL P ∧ fadL P ≤ fadH P ∧ fadH P ≤ 1048576) ∧ (0 ≤ fadL Q ∧ fadL Q ≤ fadH Q ∧ fadH Q ≤ 1048576) ∧ (0 ≤ fadL ((P : Int) + Q) ∧ fadL ((P : Int) + Q) ≤ 1048576 ∧ 0 ≤ fadH ((P : Int) + Q) ∧ fadH ((P : Int) + Q) ≤ 1048576) ∧ fadL ((P : Int) + Q) * 1048576 ≤ fadH P * fadH Q ∧ fadL P * fadL Q ≤ fadH ((P : Int) + Q) * 1048576 ∧ fadL ((P : Int) + Q) ≤ fadH P ∧ fadL ((P : Int) + Q) ≤ fadH Q := by

  obtain ⟨p1, p0⟩ := cst P hp

  obtain ⟨q1, q0⟩ := cst Q hq

  have bP := fD_bd p0 p1

  have cP := fU_bd p0 p1

  have bQ := fD_bd q0 q1

  have cQ := fU_bd q0 q1

  have vP : fadL P = fD P / 1024 ∧ fadH P = cdiv (fU P) 1024 := by unfold fadL fadH; rw [if_pos p1, if_pos p1]; exact ⟨rfl, rfl⟩

  have vQ : fadL Q = fD Q / 1024 ∧ fadH Q = cdiv (fU Q) 1024 := by unfold fadL fadH; rw [if_pos q1, if_pos q1]; exact ⟨rfl, rfl⟩

  have hcast : ((P + Q : Nat) : Int) = (P : Int) + Q := by omega

  have s0 : (0 : Int) ≤ (P : Int) + Q := by omega

  have hnot : ¬ (P : Int) + Q ≤ 16777216 → 16777216 ≤ P + Q := by omega

  clear hp hq

  obtain ⟨M, hM⟩ : ∃ M : Int, M = 20000000 * 1073741824 := ⟨_, rfl⟩

  obtain ⟨m, hm⟩ : ∃ m : Nat, (m : Int) = 32169908992 := ⟨32169908992, by decide⟩

  have hM0 : 0 ≤ M - 1 := by rw [hM]; decide

  have hM1 : 0 < M := by rw [hM]; decide

  obtain ⟨u1, l1⟩ := fade_pow2 M m hM hm (P := P) p1

  obtain ⟨u2, l2⟩ := fade_pow2 M m hM hm (P := Q) q1

  have h3 : (P : Int) + Q ≤ 16777216 → 1073741824 * (M - 1) ^ (m * (P + Q)) ≤ fU ((P : Int) + Q) * M ^ (m * (P + Q)) ∧ fD ((P : Int) + Q) * M ^ (m * (P + Q)) ≤ 1073741824 * (M - 1) ^ (m * (P + Q)) := fun h => by

    have := fade_pow2 M m hM hm (P := P + Q) (hcast ▸ h)

    rwa [hcast] at this

  have h4 := fun h => far_pow M m hM hm (S := P + Q) (hnot h)

  clear hm hM

  have yP : 0 < M ^ (m * P) := Int.pow_pos hM1

  have yQ : 0 < M ^ (m * Q) := Int.pow_pos hM1

  have eP := pw_nn hM0 (m * P)

  have eQ := pw_nn hM0 (m * Q)

  have lP := pw_le hM0 (m * P)

  have lQ := pw_le hM0 (m * Q)

  rw [Nat.mul_add, Int.pow_add, Int.pow_add] at h3 h4

  generalize (M - 1) ^ (m * P) = E at *

  generalize (M - 1) ^ (m * Q) = F' at *

  generalize M ^ (m * P) = Y at *

  generalize M ^ (m * Q) = Z at *

  have fa := fd_of (Int.le_of_lt yP) bP.1 cP u1 l1

  have fb := fd_of (Int.le_of_lt yQ) bQ.1 cQ u2 l2

  rw [← vP.1, ← vP.2] at fa

  rw [← vQ.1, ← vQ.2] at fb

  refine ⟨⟨fa.lo0, fd_le yP fa, fa.hi1⟩, ⟨fb.lo0, fd_le yQ fb, fb.hi1⟩, ?_⟩

  by_cases hs : (P : Int) + Q ≤ 16777216

  · obtain ⟨u3, l3⟩ := h3 hs

    have bc := fD_bd s0 hs

    have cc := fU_bd s0 hs

    have fc := fd_of (Int.le_of_lt (Int.mul_pos yP yQ)) bc.1 cc u3 l3

    have vc : fadL ((P : Int) + Q) = fD ((P : Int) + Q) / 1024 ∧ fadH ((P : Int) + Q) = cdiv (fU ((P : Int) + Q)) 1024 := by unfold fadL fadH; rw [if_pos hs, if_pos hs]; exact ⟨rfl, rfl⟩

    rw [← vc.1, ← vc.2] at fc

    have r := fd_three yP yQ eP eQ lP lQ fa fb fc

    exact ⟨⟨fc.lo0, Int.le_trans r.2.2.1 fa.hi1, fc.hi0, fc.hi1⟩, r.1, r.2.1, r.2.2.1, r.2.2.2⟩

  · have v0 : fadL ((P : Int) + Q) = 0 := by unfold fadL; rw [if_neg hs]

    have v1 : fadH ((P : Int) + Q) = 1 := by unfold fadH; rw [if_neg hs]

    rw [v0, v1]

    have fp := h4 hs

    have n1 : 0 ≤ 1073741824 * E := by omega

    have l := Int.mul_le_mul fa.lo fb.lo (Int.mul_nonneg (Int.mul_nonneg fb.lo0 (by decide)) (Int.le_of_lt yQ)) n1

    have hYZ := Int.mul_pos yP yQ

    refine ⟨by decide, ?_, ?_, fa.hi0, fb.hi0⟩

    · rw [Int.zero_mul]; exact Int.mul_nonneg fa.hi0 fb.hi0

    · clear u1 u2 l1 l2 h3 h4 fa fb vP vQ bP bQ cP cQ v0 v1 hs

      generalize fadL P = aL at *

      generalize fadL Q = bL at *

      have e1 : aL * 1024 * Y * (bL * 1024 * Z) = 1048576 * (aL * bL * (Y * Z)) := by grind

      have e2 : 1073741824 * E * (1073741824 * F') = 1073741824 * (1073741824 * (E * F')) := by grind

      have e4 : 1 * 1048576 * (Y * Z) = 1048576 * (Y * Z) := by grind

      refine Int.le_of_mul_le_mul_right (a := Y * Z) ?_ hYZ

      rw [e1, e2] at l

      rw [e4]

      omega

theorem together {x0 x1 : Int} (r0 : I64 x0) (r1 : I64 x1) : Spec Try.prog etalonlaw01_BallFadesTogether_s ⟨[x0, x1], [], []⟩ [] [true] [] := by

  refine outt (bft r0 r1 (R := (· = true)) ⟨_, awake_t, fun _ => ?_, fun h => by cases h⟩)

  simp only [decide_eq_true_eq, decide_eq_false_iff_not]

  refine ⟨fun p0 => ⟨fun p1 => ⟨fun q0 => ⟨fun q1 => ?_, fun _ => trivial⟩, fun _ => trivial⟩, fun _ => trivial⟩, fun _ => trivial⟩

  obtain ⟨P, rfl⟩ := Int.eq_ofNat_of_zero_le p0

  obtain ⟨Q, rfl⟩ := Int.eq_ofNat_of_zero_le q0

  obtain ⟨⟨a0, ha, a1⟩, ⟨b0, hb, b1⟩, ⟨c0, c1, c2, c3⟩, g1, g2, g3, g4⟩ := key_num (P := P) (Q := Q) p1 q1

  have F1 := fading_ok (lo := (P : Int)) (hi := (P : Int)) (by omega) (by omega) (by omega)

  have F2 := fading_ok (lo := (Q : Int)) (hi := (Q : Int)) (by omega) (by omega) (by omega)

  have F3 := fading_ok (lo := (P : Int) + Q) (hi := (P : Int) + Q) (by omega) (by omega) (by omega)

  have w1 : IntKind.i64.wrap (fadL ((P : Int) + Q) * 1048576) = fadL ((P : Int) + Q) * 1048576 := by rw [IntKind.wrap_i64]; omega

  have w4 : IntKind.i64.wrap (fadH ((P : Int) + Q) * 1048576) = fadH ((P : Int) + Q) * 1048576 := by rw [IntKind.wrap_i64]; omega

  have p2 : 0 ≤ fadH P * fadH Q ∧ fadH P * fadH Q ≤ 1048576 * 1048576 := ⟨Int.mul_nonneg (by omega) (by omega), Int.mul_le_mul (by omega) (by omega) (by omega) (by omega)⟩

  have p3 : 0 ≤ fadL P * fadL Q ∧ fadL P * fadL Q ≤ 1048576 * 1048576 := ⟨Int.mul_nonneg (by omega) (by omega), Int.mul_le_mul (by omega) (by omega) (by omega) (by omega)⟩

  have w2 : IntKind.i64.wrap (fadH P * fadH Q) = fadH P * fadH Q := by rw [IntKind.wrap_i64]; omega

  have w3 : IntKind.i64.wrap (fadL P * fadL Q) = fadL P * fadL Q := by rw [IntKind.wrap_i64]; omega

  have k0 : ∀ x : Int, ((0 : Int) == 0) = true := fun _ => rfl

  by_cases hpq : (P : Int) ≤ Q

  · have F4 := fading_ok (lo := (P : Int)) (hi := (Q : Int)) (by omega) (by omega) (by omega)

    rw [show (if (Q : Int) < P then (Q : Int) else P) = P by rw [if_neg (by omega)], show (if (Q : Int) > P then (Q : Int) else P) = Q by split <;> omega]

    refine ⟨_, _, _, F1, _, _, _, F2, _, _, _, F3, _, _, _, F4, ?_⟩

    rw [w1, w2, w3, w4]

    simp only [beq_self_eq_true, true_implies, Bool.true_eq_false, false_implies, and_true, a0, ha, b0, hb, a1, b1, g1, g2, hpq, not_true_eq_false]

    all_goals (try simp only [decide_eq_true_eq])

    split <;> omega

  · have F4 := fading_ok (lo := (Q : Int)) (hi := (P : Int)) (by omega) (by omega) (by omega)

    rw [show (if (Q : Int) < P then (Q : Int) else P) = Q by rw [if_pos (by omega)], show (if (Q : Int) > P then (Q : Int) else P) = P by rw [if_neg (by omega)]]

    refine ⟨_, _, _, F1, _, _, _, F2, _, _, _, F3, _, _, _, F4, ?_⟩

    rw [w1, w2, w3, w4]

    simp only [beq_self_eq_true, true_implies, Bool.true_eq_false, false_implies, and_true, true_and, a0, ha, b0, hb, a1, b1, g1, g2, hpq, not_true_eq_false, not_false_eq_true]

    all_goals (try simp only [decide_eq_true_eq])

    split <;> omega

end Go.Proofs.Ytgdhpgjfebinhaa.Ev
