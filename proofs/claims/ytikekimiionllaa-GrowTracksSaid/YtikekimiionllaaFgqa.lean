/- The contracts of quarters, rates and ends. -/
import Derived.Test.YtikekimiionllaaFqs
namespace Go.Proofs.Ytikekimiionllaa.Ev
set_option linter.unusedSimpArgs false
open Go Go.RowKit
set_option linter.unusedVariables false
set_option maxRecDepth 100000
def grow_checkRate_s : Sig := ⟨25, ⟨2, 0, 0⟩, ⟨1, 0, 0⟩, [(.agg [(.int .i64 (.var 0)), (.int .i64 (.var 1))])], [], (.int .i64 (.var 2)), []⟩
def etalonref08_RateErr_s : Sig := ⟨29, ⟨2, 0, 0⟩, ⟨1, 0, 0⟩, [(.agg [(.int .i64 (.var 0)), (.int .i64 (.var 1))])], [], (.int .i64 (.var 2)), []⟩
def cr_t : Tr :=
  (.ite (.icmp .leq (.lit 1) (.var 0))
  (.ite (.icmp .leq (.var 0) (.lit 1000000))
   (.ite (.icmp .leq (.lit 1) (.var 1))
    (.ite (.icmp .leq (.var 1) (.lit 1000000))
     (.ite (.icmp .leq (.var 0) (.var 1))
      (.ret ⟨[(.lit 0)], [], []⟩ [])
      (.ret ⟨[(.lit 10)], [], []⟩ []))
     (.ret ⟨[(.lit 2)], [], []⟩ []))
    (.ret ⟨[(.lit 2)], [], []⟩ []))
   (.ret ⟨[(.lit 2)], [], []⟩ []))
  (.ret ⟨[(.lit 2)], [], []⟩ []))
theorem cr {x0 x1 : Int} (r0 : (-9223372036854775808) ≤ x0 ∧ x0 ≤ 9223372036854775807) (r1 : (-9223372036854775808) ≤ x1 ∧ x1 ≤ 9223372036854775807) {R : Int → Prop}
  (H : ((decide ((1 : Int) ≤ x0) = true → ((decide ((x0 : Int) ≤ 1000000) = true → ((decide ((1 : Int) ≤ x1) = true → ((decide ((x1 : Int) ≤ 1000000) = true → ((decide ((x0 : Int) ≤ x1) = true → R (0)) ∧
       (decide ((x0 : Int) ≤ x1) = false → R (10)))) ∧
      (decide ((x1 : Int) ≤ 1000000) = false → R (2)))) ∧
     (decide ((1 : Int) ≤ x1) = false → R (2)))) ∧
    (decide ((x0 : Int) ≤ 1000000) = false → R (2)))) ∧
   (decide ((1 : Int) ≤ x0) = false → R (2)))) :
    ∃ v0 : Int, R v0 ∧ Spec Try.prog grow_checkRate_s ⟨[x0, x1], [], []⟩ [v0] [] [] :=
  Eq.mp (by kernel_rfl) (exV_of (K := fun d => app3 grow_checkRate_s.out R d ∧ Spec Try.prog grow_checkRate_s ⟨[x0, x1], [], []⟩ d.1 d.2.1 d.2.2) (tree_at mixed names S1_ok (S := S1 Try.prog) (lf := 100000) (d := 60) grow_checkRate_s cr_t { ivs := [(0, (-9223372036854775808), 9223372036854775807), (1, (-9223372036854775808), 9223372036854775807)], aivs := [] } ⟨[x0, x1], [], []⟩ rfl (by kernel_rfl) (by kernel_rfl) (by kernel_rfl) ⟨(fc r0 (fc r1 fz)), fz, fz, fz⟩ (R := fun d => app3 grow_checkRate_s.out R d) (Eq.mp (by kernel_rfl) H)))

def rr_t : Tr :=
  (.ite (.icmp .leq (.lit 1) (.var 0))
  (.ite (.icmp .leq (.var 0) (.lit 1000000))
   (.ite (.icmp .leq (.lit 1) (.var 1))
    (.ite (.icmp .leq (.var 1) (.lit 1000000))
     (.ite (.icmp .leq (.var 0) (.var 1))
      (.ret ⟨[(.lit 0)], [], []⟩ [])
      (.ret ⟨[(.lit 10)], [], []⟩ []))
     (.ret ⟨[(.lit 2)], [], []⟩ []))
    (.ret ⟨[(.lit 2)], [], []⟩ []))
   (.ret ⟨[(.lit 2)], [], []⟩ []))
  (.ret ⟨[(.lit 2)], [], []⟩ []))
theorem rr {x0 x1 : Int} (r0 : (-9223372036854775808) ≤ x0 ∧ x0 ≤ 9223372036854775807) (r1 : (-9223372036854775808) ≤ x1 ∧ x1 ≤ 9223372036854775807) {R : Int → Prop}
  (H : ((decide ((1 : Int) ≤ x0) = true → ((decide ((x0 : Int) ≤ 1000000) = true → ((decide ((1 : Int) ≤ x1) = true → ((decide ((x1 : Int) ≤ 1000000) = true → ((decide ((x0 : Int) ≤ x1) = true → R (0)) ∧
       (decide ((x0 : Int) ≤ x1) = false → R (10)))) ∧
      (decide ((x1 : Int) ≤ 1000000) = false → R (2)))) ∧
     (decide ((1 : Int) ≤ x1) = false → R (2)))) ∧
    (decide ((x0 : Int) ≤ 1000000) = false → R (2)))) ∧
   (decide ((1 : Int) ≤ x0) = false → R (2)))) :
    ∃ v0 : Int, R v0 ∧ Spec Try.prog etalonref08_RateErr_s ⟨[x0, x1], [], []⟩ [v0] [] [] :=
  Eq.mp (by kernel_rfl) (exV_of (K := fun d => app3 etalonref08_RateErr_s.out R d ∧ Spec Try.prog etalonref08_RateErr_s ⟨[x0, x1], [], []⟩ d.1 d.2.1 d.2.2) (tree_at mixed names S1_ok (S := S1 Try.prog) (lf := 100000) (d := 60) etalonref08_RateErr_s rr_t { ivs := [(0, (-9223372036854775808), 9223372036854775807), (1, (-9223372036854775808), 9223372036854775807)], aivs := [] } ⟨[x0, x1], [], []⟩ rfl (by kernel_rfl) (by kernel_rfl) (by kernel_rfl) ⟨(fc r0 (fc r1 fz)), fz, fz, fz⟩ (R := fun d => app3 etalonref08_RateErr_s.out R d) (Eq.mp (by kernel_rfl) H)))

def I64 (x : Int) : Prop := (-9223372036854775808) ≤ x ∧ x ≤ 9223372036854775807

/-- The error of quarters. -/

def re (L M lo hi : Int) : Int := if L ≤ lo ∧ lo ≤ M ∧ L ≤ hi ∧ hi ≤ M then (if lo ≤ hi then 0 else 10) else 2

theorem re_ok {L M lo hi : Int} (h : re L M lo hi = 0) : (L ≤ lo ∧ lo ≤ M) ∧ (L ≤ hi ∧ hi ≤ M) ∧ lo ≤ hi := by

  unfold re at h; split at h

  · split at h <;> omega

  · omega

theorem re_vals (L M lo hi : Int) : re L M lo hi = 0 ∨ re L M lo hi = 2 ∨ re L M lo hi = 10 := by

  unfold re; split

  · split <;> simp

  · simp

theorem checkRate_s {x0 x1 : Int} (r0 : I64 x0) (r1 : I64 x1) : Spec Try.prog grow_checkRate_s ⟨[x0, x1], [], []⟩ [re 1 1000000 x0 x1] [] [] := by

  obtain ⟨v, rfl, hs⟩ : ∃ v : Int, v = re 1 1000000 x0 x1 ∧ Spec Try.prog grow_checkRate_s ⟨[x0, x1], [], []⟩ [v] [] [] := by

    refine cr r0 r1 (R := (· = re 1 1000000 x0 x1)) ?_

    simp only [decide_eq_true_eq, decide_eq_false_iff_not, re]

    (repeat' (first | apply And.intro | intro _ | fail)) <;> (split <;> (try split) <;> omega)

  exact hs

theorem rRateErr_s {x0 x1 : Int} (r0 : I64 x0) (r1 : I64 x1) : Spec Try.prog etalonref08_RateErr_s ⟨[x0, x1], [], []⟩ [re 1 1000000 x0 x1] [] [] := by

  obtain ⟨v, rfl, hs⟩ : ∃ v : Int, v = re 1 1000000 x0 x1 ∧ Spec Try.prog etalonref08_RateErr_s ⟨[x0, x1], [], []⟩ [v] [] [] := by

    refine rr r0 r1 (R := (· = re 1 1000000 x0 x1)) ?_

    simp only [decide_eq_true_eq, decide_eq_false_iff_not, re]

    (repeat' (first | apply And.intro | intro _ | fail)) <;> (split <;> (try split) <;> omega)

  exact hs

theorem mul_rng' {x y X Y : Int} (hx : 0 ≤ x ∧ x ≤ X) (hy : 0 ≤ y ∧ y ≤ Y) : 0 ≤ x * y ∧ x * y ≤ X * Y :=

  ⟨Int.mul_nonneg hx.1 hy.1, Int.mul_le_mul hx.2 hy.2 hy.1 (by omega)⟩

theorem cdiv_least {n d k : Int} (hd : 0 < d) (h : n ≤ d * k) : cdiv n d ≤ k := by

  have := (cdiv_spec' n hd).2

  rcases Int.lt_or_le k (cdiv n d) with h2 | h2

  · have h3 : d * k ≤ d * (cdiv n d - 1) := Int.mul_le_mul_of_nonneg_left (by omega) (by omega)

    omega

  · exact h2

theorem dvq {x y d X Y D : Int} (hx : 0 ≤ x ∧ x ≤ X) (hy : 0 ≤ y ∧ y ≤ Y) (hd : 1 ≤ d ∧ d ≤ D) (h1 : X * Y ≤ 4611686018427387904) (h2 : X ≤ 4611686018427387904) (h3 : Y ≤ 4611686018427387904) (h4 : D ≤ 4611686018427387904) : DvIn x y d :=

  DvIn_by (X := X) (Y := Y) (by omega) (by omega) (by omega) (by omega) (by omega) (by omega) h1 h2 h3

end Go.Proofs.Ytikekimiionllaa.Ev
