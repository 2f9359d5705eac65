/- Turns: which error is told. -/
import Derived.Test.YtpjcjdhidfnbbaaGreatFse
namespace Go.Proofs.YtpjcjdhidfnbbaaGreat.Ev
set_option linter.unusedSimpArgs false
open Go Go.RowKit
set_option linter.unusedVariables false
set_option maxRecDepth 100000
def polar_CheckTurn_s : Sig := ⟨48, ⟨3, 0, 0⟩, ⟨1, 0, 0⟩, [(.agg [(.int .i64 (.var 0)), (.int .i64 (.var 1)), (.int .i64 (.var 2))])], [], (.int .i64 (.var 3)), []⟩
def etalonref05_CheckTurn_s : Sig := ⟨50, ⟨3, 0, 0⟩, ⟨1, 0, 0⟩, [(.agg [(.int .i64 (.var 0)), (.int .i64 (.var 1)), (.int .i64 (.var 2))])], [], (.int .i64 (.var 3)), []⟩
def etalonref06_TurnErr_s : Sig := ⟨16, ⟨3, 0, 0⟩, ⟨1, 0, 0⟩, [(.agg [(.int .i64 (.var 0)), (.int .i64 (.var 1)), (.int .i64 (.var 2))])], [], (.int .i64 (.var 3)), []⟩

def tp_t : Tr :=
  (.ite (.icmp .leq (.lit 1) (.var 2))
  (.ite (.icmp .leq (.var 2) (.lit 1000))
   (.ite (.icmp .leq (.bin .subI (.lit 0) (.var 2)) (.var 0))
    (.ite (.icmp .leq (.var 0) (.var 2))
     (.ite (.icmp .leq (.bin .subI (.lit 0) (.var 2)) (.var 1))
      (.ite (.icmp .leq (.var 1) (.var 2))
       (.ite (.icmp .eql (.bin (.addW .i64) (.bin (.mulW .i64) (.var 0) (.var 0)) (.bin (.mulW .i64) (.var 1) (.var 1))) (.bin .mulI (.var 2) (.var 2)))
        (.ret ⟨[(.lit 0)], [], []⟩ [])
        (.ret ⟨[(.lit 12)], [], []⟩ []))
       (.ret ⟨[(.lit 12)], [], []⟩ []))
      (.ret ⟨[(.lit 12)], [], []⟩ []))
     (.ret ⟨[(.lit 12)], [], []⟩ []))
    (.ret ⟨[(.lit 12)], [], []⟩ []))
   (.ret ⟨[(.lit 2)], [], []⟩ []))
  (.ret ⟨[(.lit 2)], [], []⟩ []))
theorem tp {x0 x1 x2 : Int} (r0 : (-9223372036854775808) ≤ x0 ∧ x0 ≤ 9223372036854775807) (r1 : (-9223372036854775808) ≤ x1 ∧ x1 ≤ 9223372036854775807) (r2 : (-9223372036854775808) ≤ x2 ∧ x2 ≤ 9223372036854775807) {R : Int → Prop}
  (H : ((decide ((1 : Int) ≤ x2) = true → ((decide ((x2 : Int) ≤ 1000) = true → ((decide (((0 - x2) : Int) ≤ x0) = true → ((decide ((x0 : Int) ≤ x2) = true → ((decide (((0 - x2) : Int) ≤ x1) = true → ((decide ((x1 : Int) ≤ x2) = true → ((((IntKind.i64.wrap (IntKind.i64.wrap (x0 * x0) + IntKind.i64.wrap (x1 * x1)) : Int) == (x2 * x2)) = true → R (0)) ∧
         (((IntKind.i64.wrap (IntKind.i64.wrap (x0 * x0) + IntKind.i64.wrap (x1 * x1)) : Int) == (x2 * x2)) = false → R (12)))) ∧
        (decide ((x1 : Int) ≤ x2) = false → R (12)))) ∧
       (decide (((0 - x2) : Int) ≤ x1) = false → R (12)))) ∧
      (decide ((x0 : Int) ≤ x2) = false → R (12)))) ∧
     (decide (((0 - x2) : Int) ≤ x0) = false → R (12)))) ∧
    (decide ((x2 : Int) ≤ 1000) = false → R (2)))) ∧
   (decide ((1 : Int) ≤ x2) = false → R (2)))) :
    ∃ v0 : Int, R v0 ∧ Spec Tryz.prog polar_CheckTurn_s ⟨[x0, x1, x2], [], []⟩ [v0] [] [] :=
  Eq.mp (by kernel_rfl) (exV_of (K := fun d => app3 polar_CheckTurn_s.out R d ∧ Spec Tryz.prog polar_CheckTurn_s ⟨[x0, x1, x2], [], []⟩ d.1 d.2.1 d.2.2) (tree_at mixed names S1_ok (S := S1 Tryz.prog) (lf := 100000) (d := 60) polar_CheckTurn_s tp_t { ivs := [(0, (-9223372036854775808), 9223372036854775807), (1, (-9223372036854775808), 9223372036854775807), (2, (-9223372036854775808), 9223372036854775807)], aivs := [] } ⟨[x0, x1, x2], [], []⟩ rfl (by kernel_rfl) (by kernel_rfl) (by kernel_rfl) ⟨(fc r0 (fc r1 (fc r2 fz))), fz, fz, fz⟩ (R := fun d => app3 polar_CheckTurn_s.out R d) (Eq.mp (by kernel_rfl) H)))

def tr_t : Tr :=
  (.ite (.icmp .leq (.lit 1) (.var 2))
  (.ite (.icmp .leq (.var 2) (.lit 1000))
   (.ite (.icmp .leq (.bin .subI (.lit 0) (.var 2)) (.var 0))
    (.ite (.icmp .leq (.var 0) (.var 2))
     (.ite (.icmp .leq (.bin .subI (.lit 0) (.var 2)) (.var 1))
      (.ite (.icmp .leq (.var 1) (.var 2))
       (.ite (.icmp .eql (.bin (.addW .i64) (.bin (.mulW .i64) (.var 0) (.var 0)) (.bin (.mulW .i64) (.var 1) (.var 1))) (.bin .mulI (.var 2) (.var 2)))
        (.ret ⟨[(.lit 0)], [], []⟩ [])
        (.ret ⟨[(.lit 12)], [], []⟩ []))
       (.ret ⟨[(.lit 12)], [], []⟩ []))
      (.ret ⟨[(.lit 12)], [], []⟩ []))
     (.ret ⟨[(.lit 12)], [], []⟩ []))
    (.ret ⟨[(.lit 12)], [], []⟩ []))
   (.ret ⟨[(.lit 2)], [], []⟩ []))
  (.ret ⟨[(.lit 2)], [], []⟩ []))
theorem tr {x0 x1 x2 : Int} (r0 : (-9223372036854775808) ≤ x0 ∧ x0 ≤ 9223372036854775807) (r1 : (-9223372036854775808) ≤ x1 ∧ x1 ≤ 9223372036854775807) (r2 : (-9223372036854775808) ≤ x2 ∧ x2 ≤ 9223372036854775807) {R : Int → Prop}
  (H : ((decide ((1 : Int) ≤ x2) = true → ((decide ((x2 : Int) ≤ 1000) = true → ((decide (((0 - x2) : Int) ≤ x0) = true → ((decide ((x0 : Int) ≤ x2) = true → ((decide (((0 - x2) : Int) ≤ x1) = true → ((decide ((x1 : Int) ≤ x2) = true → ((((IntKind.i64.wrap (IntKind.i64.wrap (x0 * x0) + IntKind.i64.wrap (x1 * x1)) : Int) == (x2 * x2)) = true → R (0)) ∧
         (((IntKind.i64.wrap (IntKind.i64.wrap (x0 * x0) + IntKind.i64.wrap (x1 * x1)) : Int) == (x2 * x2)) = false → R (12)))) ∧
        (decide ((x1 : Int) ≤ x2) = false → R (12)))) ∧
       (decide (((0 - x2) : Int) ≤ x1) = false → R (12)))) ∧
      (decide ((x0 : Int) ≤ x2) = false → R (12)))) ∧
     (decide (((0 - x2) : Int) ≤ x0) = false → R (12)))) ∧
    (decide ((x2 : Int) ≤ 1000) = false → R (2)))) ∧
   (decide ((1 : Int) ≤ x2) = false → R (2)))) :
    ∃ v0 : Int, R v0 ∧ Spec Tryz.prog etalonref05_CheckTurn_s ⟨[x0, x1, x2], [], []⟩ [v0] [] [] :=
  Eq.mp (by kernel_rfl) (exV_of (K := fun d => app3 etalonref05_CheckTurn_s.out R d ∧ Spec Tryz.prog etalonref05_CheckTurn_s ⟨[x0, x1, x2], [], []⟩ d.1 d.2.1 d.2.2) (tree_at mixed names S1_ok (S := S1 Tryz.prog) (lf := 100000) (d := 60) etalonref05_CheckTurn_s tr_t { ivs := [(0, (-9223372036854775808), 9223372036854775807), (1, (-9223372036854775808), 9223372036854775807), (2, (-9223372036854775808), 9223372036854775807)], aivs := [] } ⟨[x0, x1, x2], [], []⟩ rfl (by kernel_rfl) (by kernel_rfl) (by kernel_rfl) ⟨(fc r0 (fc r1 (fc r2 fz))), fz, fz, fz⟩ (R := fun d => app3 etalonref05_CheckTurn_s.out R d) (Eq.mp (by kernel_rfl) H)))

def tq_t : Tr :=
  (.call etalonref05_CheckTurn_s ⟨[(.var 0), (.var 1), (.var 2)], [], []⟩ ⟨[(.var 0), (.var 1), (.var 2), (.var 3)], [], []⟩ ⟨50, [(.agg [(.int .i64 (.var 0)), (.int .i64 (.var 1)), (.int .i64 (.var 2))])], [], [none], (.int .i64 (.var 3)), []⟩
  (.ret ⟨[(.var 3)], [], []⟩ []))
theorem tq {x0 x1 x2 : Int} (r0 : (-9223372036854775808) ≤ x0 ∧ x0 ≤ 9223372036854775807) (r1 : (-9223372036854775808) ≤ x1 ∧ x1 ≤ 9223372036854775807) (r2 : (-9223372036854775808) ≤ x2 ∧ x2 ≤ 9223372036854775807) {R : Int → Prop}
  (H : (∃ v3 : Int, Spec Tryz.prog etalonref05_CheckTurn_s ⟨[x0, x1, x2], [], []⟩ [v3] [] [] ∧
   R (v3))) :
    ∃ v0 : Int, R v0 ∧ Spec Tryz.prog etalonref06_TurnErr_s ⟨[x0, x1, x2], [], []⟩ [v0] [] [] :=
  Eq.mp (by kernel_rfl) (exV_of (K := fun d => app3 etalonref06_TurnErr_s.out R d ∧ Spec Tryz.prog etalonref06_TurnErr_s ⟨[x0, x1, x2], [], []⟩ d.1 d.2.1 d.2.2) (tree_at mixed names S1_ok (S := S1 Tryz.prog) (lf := 100000) (d := 60) etalonref06_TurnErr_s tq_t { ivs := [(0, (-9223372036854775808), 9223372036854775807), (1, (-9223372036854775808), 9223372036854775807), (2, (-9223372036854775808), 9223372036854775807)], aivs := [] } ⟨[x0, x1, x2], [], []⟩ rfl (by kernel_rfl) (by kernel_rfl) (by kernel_rfl) ⟨(fc r0 (fc r1 (fc r2 fz))), fz, fz, fz⟩ (R := fun d => app3 etalonref06_TurnErr_s.out R d) (Eq.mp (by kernel_rfl) H)))

/-- The error of a turn. -/

def tnE (p q r : Int) : Int := if 1 ≤ r ∧ r ≤ 1000 then (if ((0 - r ≤ p ∧ p ≤ r) ∧ (0 - r ≤ q ∧ q ≤ r)) ∧ p * p + q * q = r * r then 0 else 12) else 2

theorem tnE_ok {p q r : Int} (h : tnE p q r = 0) : (1 ≤ r ∧ r ≤ 1000) ∧ (0 - r ≤ p ∧ p ≤ r) ∧ (0 - r ≤ q ∧ q ≤ r) ∧ p * p + q * q = r * r := by

  unfold tnE at h; split at h

  · split at h

    · rename_i h1 h2; exact ⟨h1, h2.1.1, h2.1.2, h2.2⟩

    · cases h

  · cases h

theorem turn_sq {p q r : Int} (h : r ≤ 1000) (hp : 0 - r ≤ p ∧ p ≤ r) (hq : 0 - r ≤ q ∧ q ≤ r) : IntKind.i64.wrap (IntKind.i64.wrap (p * p) + IntKind.i64.wrap (q * q)) = p * p + q * q := by

  have a := mulB (n := p) (a := p) (N := 1000) (A := 1000) (by omega) (by omega)

  have b := mulB (n := q) (a := q) (N := 1000) (A := 1000) (by omega) (by omega)

  have w1 : IntKind.i64.wrap (p * p) = p * p := by rw [IntKind.wrap_i64]; omega

  have w2 : IntKind.i64.wrap (q * q) = q * q := by rw [IntKind.wrap_i64]; omega

  rw [w1, w2, IntKind.wrap_i64]; omega

theorem checkTurn_p {x0 x1 x2 : Int} (r0 : I64 x0) (r1 : I64 x1) (r2 : I64 x2) : Spec Tryz.prog polar_CheckTurn_s ⟨[x0, x1, x2], [], []⟩ [tnE x0 x1 x2] [] [] := by

  obtain ⟨v, rfl, hs⟩ : ∃ v : Int, v = tnE x0 x1 x2 ∧ Spec Tryz.prog polar_CheckTurn_s ⟨[x0, x1, x2], [], []⟩ [v] [] [] := by

    refine tp r0 r1 r2 (R := (· = tnE x0 x1 x2)) ?_

    simp only [decide_eq_true_eq, decide_eq_false_iff_not, beq_iff_eq, beq_eq_false_iff_ne, ne_eq]

    refine ⟨fun a => ⟨fun b => ⟨fun c => ⟨fun d => ⟨fun e => ⟨fun f => ?_, fun f => ?_⟩, fun e => ?_⟩, fun d => ?_⟩, fun c => ?_⟩, fun b => ?_⟩, fun a => ?_⟩

    · rw [turn_sq b ⟨c, d⟩ ⟨e, f⟩]

      exact ⟨fun g => by unfold tnE; rw [if_pos ⟨a, b⟩, if_pos ⟨⟨⟨c, d⟩, ⟨e, f⟩⟩, g⟩], fun g => by unfold tnE; rw [if_pos ⟨a, b⟩, if_neg (fun q => g q.2)]⟩

    · unfold tnE; rw [if_pos ⟨a, b⟩, if_neg (fun q => f q.1.2.2)]

    · unfold tnE; rw [if_pos ⟨a, b⟩, if_neg (fun q => e q.1.2.1)]

    · unfold tnE; rw [if_pos ⟨a, b⟩, if_neg (fun q => d q.1.1.2)]

    · unfold tnE; rw [if_pos ⟨a, b⟩, if_neg (fun q => c q.1.1.1)]

    · unfold tnE; rw [if_neg (fun q => b q.2)]

    · unfold tnE; rw [if_neg (fun q => a q.1)]

  exact hs

theorem checkTurn_r {x0 x1 x2 : Int} (r0 : I64 x0) (r1 : I64 x1) (r2 : I64 x2) : Spec Tryz.prog etalonref05_CheckTurn_s ⟨[x0, x1, x2], [], []⟩ [tnE x0 x1 x2] [] [] := by

  obtain ⟨v, rfl, hs⟩ : ∃ v : Int, v = tnE x0 x1 x2 ∧ Spec Tryz.prog etalonref05_CheckTurn_s ⟨[x0, x1, x2], [], []⟩ [v] [] [] := by

    refine tr r0 r1 r2 (R := (· = tnE x0 x1 x2)) ?_

    simp only [decide_eq_true_eq, decide_eq_false_iff_not, beq_iff_eq, beq_eq_false_iff_ne, ne_eq]

    refine ⟨fun a => ⟨fun b => ⟨fun c => ⟨fun d => ⟨fun e => ⟨fun f => ?_, fun f => ?_⟩, fun e => ?_⟩, fun d => ?_⟩, fun c => ?_⟩, fun b => ?_⟩, fun a => ?_⟩

    · rw [turn_sq b ⟨c, d⟩ ⟨e, f⟩]

      exact ⟨fun g => by unfold tnE; rw [if_pos ⟨a, b⟩, if_pos ⟨⟨⟨c, d⟩, ⟨e, f⟩⟩, g⟩], fun g => by unfold tnE; rw [if_pos ⟨a, b⟩, if_neg (fun q => g q.2)]⟩

    · unfold tnE; rw [if_pos ⟨a, b⟩, if_neg (fun q => f q.1.2.2)]

    · unfold tnE; rw [if_pos ⟨a, b⟩, if_neg (fun q => e q.1.2.1)]

    · unfold tnE; rw [if_pos ⟨a, b⟩, if_neg (fun q => d q.1.1.2)]

    · unfold tnE; rw [if_pos ⟨a, b⟩, if_neg (fun q => c q.1.1.1)]

    · unfold tnE; rw [if_neg (fun q => b q.2)]

    · unfold tnE; rw [if_neg (fun q => a q.1)]

  exact hs

theorem turnErr_r {x0 x1 x2 : Int} (r0 : I64 x0) (r1 : I64 x1) (r2 : I64 x2) : Spec Tryz.prog etalonref06_TurnErr_s ⟨[x0, x1, x2], [], []⟩ [tnE x0 x1 x2] [] [] := by

  obtain ⟨v, rfl, hs⟩ := tq r0 r1 r2 (R := (· = tnE x0 x1 x2)) ⟨_, checkTurn_r r0 r1 r2, rfl⟩

  exact hs

end Go.Proofs.YtpjcjdhidfnbbaaGreat.Ev
